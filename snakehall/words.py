"""The rows by which expressions and simple statements are done, when the expressions in them are reckoned.

A row is a tuple of a word and what belongs to it. The walker does such a row where it stands in the tree, the machine
where it stands in a code.
"""

# Statements that a row of the same word does, with nothing else in it.
ALONE = ("setitem", "say", "do", "give", "hand", "again", "dropitem", "break", "next", "sweep")


def parts_of(tree):
    """The expressions of which an expression is made, in order."""
    form = tree[0]
    if form == "list":
        return tree[1]
    if form == "table":
        return [part for pair in tree[1] for part in pair]
    if form == "field":
        return [tree[1]]
    if form == "super":
        return tree[2]
    if form == "call":
        return [tree[1], *tree[2]]
    return tree[1:]


def row_of_expr(tree):
    """The row that does an expression whose parts are reckoned."""
    form = tree[0]
    if form in ("list", "table", "call"):
        return (form, len(tree[-1]))
    if form == "super":
        return ("callsuper", len(tree[2]))
    if form == "field":
        return (form, tree[2])
    return (form,)


def row_of_simple(statement):
    """The row that does a simple statement whose expressions are reckoned, None where it needs a name or nothing."""
    form = statement[0]
    if form in ALONE:
        return (form,)
    if form == "raise":
        return ("raise",) if statement[2] is None else ("raisefrom",)
    if form in ("setfield", "dropfield"):
        return (form, statement[2])
    return None
