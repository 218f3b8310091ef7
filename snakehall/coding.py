"""Codes as they are being made, and the rows of expressions."""

from snakehall.naming import own_names, own_statements
from snakehall.words import parts_of, row_of_expr

# Where a name is sought that no deed around has as its own.
PROGRAM = -1
# Expressions that have no parts, and are rows as they stand.
ALONE = ("number", "text", "yes", "no", "none", "ask")


class Code:
    """The code of the program or of a deed; around is the code of the deed around, or of the program."""

    def __init__(self, number, title, given, names, around, hands):
        self.number = number
        self.title = title
        self.given = given
        self.names = names
        self.around = around
        self.hands = hands
        self.rows = []
        self.in_kind = False

    def told(self):
        """The code as it is handed out."""
        return (self.title, self.given, self.names, tuple(self.rows), self.hands)

    def add(self, row):
        """One row more."""
        self.rows.append(row)

    def hole(self):
        """A row that is filled later; tells its number."""
        self.rows.append(None)
        return len(self.rows) - 1

    def fill(self, at, row):
        """Fills a row that was left open."""
        self.rows[at] = row

    def here(self):
        """The number of the row that comes next."""
        return len(self.rows)

    def hops_to(self, name):
        """How many scopes are between this code's and the one in which a name is sought."""
        hops = 0
        code = self
        while code is not None:
            if name in code.names:
                return hops
            hops += 1
            code = code.around
        return PROGRAM


class Maker:
    """All codes that are made of a tree, and the paper of where statements begin in them."""

    def __init__(self):
        self.codes = []
        self.paper = {}

    def new_code(self, title, given, names, around, hands):
        """One code more."""
        code = Code(len(self.codes), title, given, names, around, hands)
        self.codes.append(code)
        return code

    def new_deed_code(self, statement, around):
        """The code for a deed's statement in another code."""
        form, title, given, rows = statement
        hands = any([inner[0] == "hand" for inner in own_statements(rows)])
        return self.new_code(title, given, tuple(own_names(rows, given)), around, hands)

    def new_number(self, code):
        """The number of the next statement, which begins with this code's next row."""
        number = len(self.paper)
        self.paper[number] = (code.number, code.here())
        return number


def make_expr(code, tree):
    """The rows of an expression."""
    form = tree[0]
    if form in ALONE:
        code.add(tree)
    elif form == "name":
        code.add((form, tree[1], code.hops_to(tree[1])))
    elif form in ("and", "or"):
        make_choice(code, tree)
    else:
        if form == "super":
            # Its being and its deed are found ahead of the arguments.
            code.add((form, tree[1]))
        for part in parts_of(tree):
            make_expr(code, part)
        code.add(row_of_expr(tree))


def make_choice(code, tree):
    """An and or or: its second side is passed over where the first one is the whole."""
    make_expr(code, tree[1])
    passing = code.hole()
    make_expr(code, tree[2])
    code.fill(passing, ("if" + tree[0], code.here()))
    code.add(row_of_expr(tree))
