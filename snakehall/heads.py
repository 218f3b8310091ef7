"""Rows one by one: simple statements, and the heads of blocks without the rows that belong to them."""

from snakehall.errors import BadRow
from snakehall.exprs import read_expr, read_row
from snakehall.reader import Reader

# What may be set and let go, and what stands behind "set" and "drop" in the statement's title.
TARGETS = {"name": "", "field": "field", "item": "item"}


def read_word(reader):
    """A word alone."""
    word = reader.seen()[1]
    reader.step()
    return (word,)


def read_word_and_colon(reader):
    """A word and the colon behind it."""
    head = read_word(reader)
    reader.need(":")
    return head


def read_word_and_expr(reader):
    """A word and the expression behind it."""
    return (*read_word(reader), read_expr(reader))


def read_asking(reader):
    """The head of an if or a while."""
    head = read_word_and_expr(reader)
    reader.need(":")
    return head


def read_for(reader):
    """The head of a for."""
    reader.need("for")
    name = reader.need_name()
    reader.need("in")
    tree = read_expr(reader)
    reader.need(":")
    return ("for", name, tree)


def read_name(reader):
    """One name of a row of names."""
    return reader.need_name()


def read_kind(reader):
    """The head of a kind or a deed: both have a name and a row of names."""
    word = read_word(reader)
    name = reader.need_name()
    names = read_row(reader, "(", ")", read_name)
    reader.need(":")
    return (*word, name, names)


def read_deed(reader):
    """The head of a deed, whose parameters are unlike."""
    head = read_kind(reader)
    names = head[2]
    if len(set(names)) < len(names):
        raise BadRow(0)
    return head


def read_except(reader):
    """The head of an except: a kind's name, and the name behind as, or None."""
    reader.need("except")
    kind = reader.need_name()
    name = None
    if reader.comes("as"):
        reader.step()
        name = reader.need_name()
    reader.need(":")
    return ("except", kind, name)


def read_raise(reader):
    """A raise: alone, of an error, or of an error from another one."""
    reader.need("raise")
    if reader.is_done():
        return ("again",)
    error = read_expr(reader)
    if not reader.comes("from"):
        return ("raise", error, None)
    reader.step()
    return ("raise", error, read_expr(reader))


def read_let_go(reader):
    """What is let go: a name, a field or an item."""
    reader.need("let")
    reader.need("go")
    return begun("drop", read_expr(reader))


def read_outer(reader):
    """The name that is a deed's further out."""
    reader.need("outer")
    return ("outer", reader.need_name())


def read_set_or_do(reader):
    """What begins with an expression: it is set, or done alone."""
    tree = read_expr(reader)
    if not reader.comes("="):
        return ("do", tree)
    reader.step()
    return (*begun("set", tree), read_expr(reader))


def begun(word, tree):
    """The begin of a statement that sets or drops what the tree tells; refused where it can do neither."""
    if tree[0] not in TARGETS:
        raise BadRow(0)
    return (word + TARGETS[tree[0]], *tree[1:])


HEADS = {
    "say": read_word_and_expr, "give": read_word_and_expr, "hand": read_word_and_expr, "raise": read_raise,
    "let": read_let_go, "outer": read_outer, "break": read_word, "next": read_word, "pass": read_word,
    "sweep": read_word, "if": read_asking, "while": read_asking, "for": read_for, "deed": read_deed,
    "kind": read_kind, "try": read_word_and_colon, "else": read_word_and_colon, "finally": read_word_and_colon,
    "except": read_except,
}


def head_of(pieces):
    """What a row of these pieces tells; refused with BadRow where it is of no form."""
    reader = Reader(pieces)
    sort, told = reader.seen()
    if sort == "word" and told in HEADS:
        read = HEADS[told]
    else:
        read = read_set_or_do
    head = read(reader)
    reader.need_end()
    return head
