"""How the walker goes through a statement: its begin, and what is done when its expressions are reckoned."""

from snakehall.blocks import begin_for, begin_kind, come_to_elder, decide, drop_name, set_name
from snakehall.calls import Doing
from snakehall.doing import do_row
from snakehall.leaving import leave_block
from snakehall.naming import EXPRESSIONS
from snakehall.strides import FINISH, Stretch
from snakehall.words import row_of_simple


def begin_row(world, call, row):
    """A statement begins: its expressions are next."""
    if row.tree[0] == "while":
        # Rows that have come to their end: the look at the head is next.
        call.blocks.append(Stretch("while", row, []))
    else:
        begin_step(world, call, row)


def begin_step(world, call, row):
    """A step is taken, and the statement's expressions are next."""
    world.note_step(row.number)
    call.todo.append((FINISH, row))
    trees = [row.tree[at] for at in EXPRESSIONS.get(row.tree[0], ())]
    call.plan_open([tree for tree in trees if tree is not None])


def thing_for(world, call, name):
    """Where a name is set: in a kind whose rows are done, else where it is sought."""
    kind = kind_around(call)
    return world.scope_for(call, name) if kind is None else kind


def kind_around(call):
    """The kind whose rows are done, None where it is none's."""
    block = call.blocks[-1]
    return block.value if block.form == "kind" else None


def finish_set(world, call, row):
    """A name is set, or a kind's part."""
    set_name(world, call, thing_for(world, call, row.tree[1]), row.tree[1])


def finish_drop(world, call, row):
    """A name is let go."""
    drop_name(world, world.scope_for(call, row.tree[1]), row.tree[1])


def finish_if(world, call, row):
    """One of the two blocks is next."""
    rows = row.inner[0] if decide(world, call) else row.inner[1]
    call.blocks.append(Stretch("rows", row, rows))


def finish_while(world, call, row):
    """The rows are next, or the end."""
    block = call.blocks[-1]
    if decide(world, call):
        block.go_to(row.inner[0])
    else:
        leave_block(world, call, block)


def finish_for(world, call, row):
    """The look for a first item is next."""
    begin_for(world, call, Stretch("for", row, []))


def finish_deed(world, call, row):
    """A deed is made and put to its name."""
    design = row.design
    doing = Doing(design.title, design.given, design.hands, kind_around(call), design)
    world.hall.put(thing_for(world, call, design.title), design.title, world.new_deed(call, doing))


def finish_kind(world, call, row):
    """A kind is made, and its rows are next."""
    title, elders = row.tree[1:3]
    for name in elders:
        come_to_elder(world, call, world.read_name(world.scope_for(call, name), name))
    begin_kind(world, call, Stretch("kind", row, row.inner[0]), title, len(elders))


def finish_try(world, call, row):
    """The first rows are next."""
    call.blocks.append(Stretch("try", row, row.inner[0]))


def finish_simple(world, call, row):
    """A simple statement is done, which may be nothing."""
    simple = row_of_simple(row.tree)
    if simple is not None:
        do_row(world, call, simple)


FINISHES = {
    "set": finish_set, "drop": finish_drop, "if": finish_if, "while": finish_while, "for": finish_for,
    "deed": finish_deed, "kind": finish_kind, "try": finish_try,
}


def finish_row(world, call, row):
    """The expressions of a statement are reckoned, and the statement is done."""
    if row.tree[0] in FINISHES:
        finish = FINISHES[row.tree[0]]
        finish(world, call, row)
    else:
        finish_simple(world, call, row)
