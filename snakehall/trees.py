"""Programs: from texts to trees and back."""

from snakehall.errors import BadRow
from snakehall.heads import head_of
from snakehall.pieces import pieces_of
from snakehall.writing import blocks_of_text

STEP = 2
ARMS = ("else", "except", "finally")


class Rows:
    """Goes through the rows of a text that are not of blanks alone; at is the number of the one that comes."""

    def __init__(self, text):
        self.texts = text.split("\n")
        self.at = -1
        self.blanks = 0
        self.head = ()
        self.step()

    def step(self):
        """Goes on to the next row and reads it, refused where it is of no form."""
        self.at += 1
        while self.at < len(self.texts) and not self.texts[self.at].strip(" "):
            self.at += 1
        if self.at == len(self.texts):
            # Further out than any row: all blocks end here.
            self.blanks, self.head = -1, ("end",)
            return
        try:
            self.blanks, pieces = pieces_of(self.texts[self.at])
            self.head = head_of(pieces)
        except BadRow:
            raise BadRow(self.at) from None

    def begins(self, word, indent):
        """Whether a row that begins with this word comes at this indent."""
        return self.blanks == indent and self.head[0] == word


def tree_of(text):
    """The tree of a program."""
    return read_rows(Rows(text), 0)


def read_rows(rows, indent):
    """The statements that come at an indent, until a row stands further out."""
    told = []
    while rows.blanks >= indent:
        if rows.blanks > indent or rows.head[0] in ARMS:
            raise BadRow(rows.at)
        told.append(read_statement(rows, indent))
    return tuple(told)


def read_block(rows, indent):
    """The statements of a block whose head stands at an indent, one at least."""
    inner = read_rows(rows, indent + STEP)
    if not inner:
        raise BadRow(rows.at)
    return inner


def read_statement(rows, indent):
    """The statement whose first row comes."""
    head = rows.head
    rows.step()
    if head[0] in ("while", "for", "deed", "kind"):
        return (*head, read_block(rows, indent))
    if head[0] == "if":
        first = read_block(rows, indent)
        return (*head, first, read_arm(rows, indent, "else"))
    if head[0] == "try":
        return read_try(rows, indent)
    return head


def read_arm(rows, indent, word):
    """The statements of an arm that is one word, () where it does not come."""
    if not rows.begins(word, indent):
        return ()
    rows.step()
    return read_block(rows, indent)


def read_try(rows, indent):
    """A try, whose head is read already."""
    first = read_block(rows, indent)
    excepts = []
    while rows.begins("except", indent):
        kind, name = rows.head[1:]
        rows.step()
        excepts.append((kind, name, read_block(rows, indent)))
    otherwise = read_arm(rows, indent, "else") if excepts else ()
    last = read_arm(rows, indent, "finally")
    if not excepts and not last:
        raise BadRow(rows.at)
    return ("try", first, tuple(excepts), otherwise, last)


def text_of(tree):
    """The text of a tree."""
    return "\n".join(rows_of_text(tree, ""))


def rows_of_text(tree, indent):
    """The list of the rows of a tree that stands at an indent."""
    told = []
    for statement in tree:
        for row, inner in blocks_of_text(statement):
            told.append(indent + row)
            told.extend(rows_of_text(inner, indent + " " * STEP))
    return told
