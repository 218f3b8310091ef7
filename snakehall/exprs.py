"""Expressions: from texts to trees."""

from snakehall.errors import BadRow
from snakehall.pieces import pieces_of
from snakehall.reader import Reader

MOST_PARTS = 8
MOST_TAILS = 8
OPERATORS = ("+", "-", "*", "<", "==", "and", "or")


def expr_of(text):
    """The tree of an expression, None where the text is none."""
    try:
        reader = Reader(pieces_of(text)[1])
        tree = read_expr(reader)
        reader.need_end()
    except BadRow:
        return None
    return tree


def read_expr(reader):
    """The tree of the longest expression that comes; refused with BadRow where none does."""
    tree = read_head(reader)
    tails = 0
    while reader.comes(".") or reader.comes("[") or reader.comes("("):
        if tails == MOST_TAILS:
            raise BadRow(0)
        tree = read_tail(reader, tree)
        tails += 1
    return tree


def read_head(reader):
    """An expression without what may stand behind it."""
    sort, told = reader.seen()
    if sort in ("number", "text", "name"):
        reader.step()
        return (sort, told)
    if told in ("yes", "no", "none", "ask"):
        reader.step()
        return (told,)
    if told in ("pull", "size"):
        reader.step()
        return (told, read_within(reader, "(", ")"))
    if told == "super":
        return read_super(reader)
    if told == "[":
        return ("list", read_row(reader, "[", "]", read_expr))
    if told == "{":
        return ("table", read_row(reader, "{", "}", read_pair))
    return read_reckoning(reader)


def read_tail(reader, tree):
    """The expression with one field, item or call behind it."""
    if reader.comes("."):
        reader.step()
        return ("field", tree, reader.need_name())
    if reader.comes("["):
        return ("item", tree, read_within(reader, "[", "]"))
    return ("call", tree, read_row(reader, "(", ")", read_expr))


def read_super(reader):
    """super, its name and its row of expressions: only the three together are an expression."""
    reader.need("super")
    reader.need(".")
    name = reader.need_name()
    return ("super", name, read_row(reader, "(", ")", read_expr))


def read_reckoning(reader):
    """A bracket around not and an expression, or around two expressions and what joins them."""
    reader.enter("(")
    if reader.comes("not"):
        reader.step()
        tree = ("not", read_expr(reader))
    else:
        first = read_expr(reader)
        operator = read_operator(reader)
        tree = (operator, first, read_expr(reader))
    reader.leave(")")
    return tree


def read_operator(reader):
    """What joins two expressions."""
    for operator in OPERATORS:
        if reader.comes(operator):
            reader.step()
            return operator
    raise BadRow(0)


def read_within(reader, begin, end):
    """The one expression between two brackets."""
    reader.enter(begin)
    tree = read_expr(reader)
    reader.leave(end)
    return tree


def read_row(reader, begin, end, read_part):
    """The tuple of the parts between two brackets, parted by commas."""
    reader.enter(begin)
    parts = []
    while not reader.comes(end):
        if len(parts) == MOST_PARTS:
            raise BadRow(0)
        if parts:
            reader.need(",")
        parts.append(read_part(reader))
    reader.leave(end)
    return tuple(parts)


def read_pair(reader):
    """A table's key and value."""
    key = read_expr(reader)
    reader.need(":")
    return (key, read_expr(reader))
