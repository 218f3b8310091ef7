"""How the walker goes through an expression: bit by bit, so that calls within need no calls of Python's."""

from snakehall.doing import do_row
from snakehall.strides import CHOOSE, SHUT
from snakehall.values import is_so
from snakehall.words import parts_of, row_of_expr

# Expressions that have no parts, and are done as they stand.
ALONE = ("number", "text", "yes", "no", "none", "ask")


def open_expr(world, call, tree):
    """An expression begins: its parts are next, or its value is come to at once."""
    form = tree[0]
    if form in ALONE:
        do_row(world, call, tree)
    elif form == "name":
        world.come_to(call, world.read_name(world.scope_for(call, tree[1]), tree[1]))
    elif form in ("and", "or"):
        call.todo.append((CHOOSE, tree))
        call.plan_open([tree[1]])
    else:
        if form == "super":
            # Its being and its deed are found ahead of the arguments.
            do_row(world, call, tree)
        call.todo.append((SHUT, tree))
        call.plan_open(parts_of(tree))


def choose_side(world, call, tree):
    """The first side of an and or or is reckoned: it is the whole, or the second one is."""
    if is_so(call.stack[-1]) == (tree[0] == "or"):
        shut_expr(world, call, tree)
    else:
        call.stack.pop()
        call.todo.append((SHUT, tree))
        call.plan_open([tree[2]])


def shut_expr(world, call, tree):
    """The parts of an expression are reckoned, and the whole is done."""
    do_row(world, call, row_of_expr(tree))
