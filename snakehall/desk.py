"""Texts of answers: a text is read, looked over, made and run."""

from snakehall.errors import BadRow, BadTree
from snakehall.machine import ran
from snakehall.making import made
from snakehall.naming import looked
from snakehall.trees import tree_of


def answers(text, given, most):
    """What a program says and how it ends, a row each; or where it is refused."""
    try:
        tree = tree_of(text)
        looked(tree)
    except BadRow as bad_row:
        return f"refused row {bad_row.row}"
    except BadTree as bad_tree:
        return f"refused place {bad_tree.place}"
    codes = made(tree)[0]
    said, end, steps, ends = ran(codes, given, most)
    return "\n".join([*said, *end_rows(end)])


def end_rows(end):
    """The rows that tell how all ended."""
    if end[0] != "error":
        return [end[0]]
    word, title, words, causes = end
    rows = [error_row("error", title, words)]
    for cause in causes:
        rows.append(error_row("from", cause[0], cause[1]))
    return rows


def error_row(word, title, words):
    """The row of an error, without a blank behind the title where it has no words."""
    return f"{word} {title} {words}" if words else f"{word} {title}"
