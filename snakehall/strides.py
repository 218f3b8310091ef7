"""A tree made ready to be walked: rows with their numbers, and what a walk keeps of its place in them."""

from snakehall.calls import Block, Call
from snakehall.naming import blocks_of, own_names, own_statements, statements

# What a walk does next: an expression begins, it chooses between its sides, it ends, or a statement ends.
OPEN = "open"
CHOOSE = "choose"
SHUT = "shut"
FINISH = "finish"


class Row:
    """A statement with its number, the rows of its blocks, and the deed that it makes, if it does."""

    def __init__(self, number, tree):
        self.number = number
        self.tree = tree
        self.inner = []
        self.design = None


class Design:
    """What a deed's statement tells of its deeds; around is the design of the deed around, or of the program."""

    def __init__(self, tree, around):
        self.title = tree[1]
        self.given = tree[2]
        self.names = own_names(tree[3], tree[2])
        self.hands = any([statement[0] == "hand" for statement in own_statements(tree[3])])
        self.around = around
        self.rows = []


def program_from(tree):
    """The design of a program: it is no deed, and has no names of its own."""
    design = Design(("deed", "", (), ()), None)
    design.rows = rows_from(tree, 0, design)
    return design


def rows_from(tree, number, around):
    """The rows of a tree within a deed of this design; the first one has this number."""
    told = []
    for statement in tree:
        row = Row(number, statement)
        told.append(row)
        number += 1
        design = around
        if statement[0] == "deed":
            design = row.design = Design(statement, around)
        for block in blocks_of(statement):
            row.inner.append(rows_from(block, number, design))
            number += len(statements(block))
        if statement[0] == "deed":
            design.rows = row.inner[0]
    return told


class Stretch(Block):
    """A block of rows, and how far the walk has come in them."""

    def __init__(self, form, source, rows):
        super().__init__(form, source)
        self.rows = rows
        self.at = 0

    def go_to(self, rows):
        """The walk goes on with the first of these rows."""
        self.rows = rows
        self.at = 0


class Walk(Call):
    """A call that is walked; todo is what is left of the statement that it stands in, the next bit last."""

    def __init__(self, doing, scope, asker):
        super().__init__(doing, scope, asker)
        self.todo = []
        self.blocks.append(Stretch("rows", None, doing.source.rows))

    def forget(self):
        """What was begun of a statement is not gone on with."""
        self.stack.clear()
        self.todo.clear()

    def plan_open(self, trees):
        """Some expressions are next, the first one first."""
        for tree in reversed(list(trees)):
            self.todo.append((OPEN, tree))
