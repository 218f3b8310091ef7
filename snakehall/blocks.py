"""What statements do that need to know where names are sought, and the begin and end of blocks."""

from snakehall.elders import merged
from snakehall.firsts import new_kind
from snakehall.trouble import Trouble
from snakehall.values import is_form, is_so


def set_name(world, call, thing, name):
    """Sets a name of a scope, or a part of a kind whose rows are done."""
    world.hall.put(thing, name, call.stack.pop())
    world.empty_basket(call)


def drop_name(world, scope, name):
    """Lets go a name."""
    if name not in scope.parts:
        raise Trouble("NoName")
    world.hall.take(scope, name)


def decide(world, call):
    """Whether the value in the head of an if or while is so."""
    goes_on = is_so(call.stack.pop())
    world.empty_basket(call)
    return goes_on


def begin_for(world, call, block):
    """A for begins to go over a value."""
    thing = call.stack.pop()
    if not (is_form(thing, "list") or is_form(thing, "table") or is_form(thing, "loop")):
        raise Trouble("BadKind")
    if thing.form == "table":
        block.first_keys = list(thing.parts)
    begin_block(world, call, block, thing)


def begin_block(world, call, block, thing):
    """A block begins that holds a thing, and the basket is emptied behind the block's head."""
    world.hall.hold(thing)
    block.value = thing
    call.blocks.append(block)
    world.empty_basket(call)


def come_to_elder(world, call, value):
    """An elder of a kind to be made."""
    world.come_to(call, value)
    if not is_form(value, "kind"):
        raise Trouble("BadKind")


def begin_kind(world, call, block, title, many):
    """A kind with so many elders is made, and its rows begin."""
    elders = call.popped(many)
    orders = [elder.own.order for elder in elders]
    behind = merged([*orders, elders])
    if behind is None or len({elder.number for elder in elders}) < many:
        raise Trouble("NoOrder")
    begin_block(world, call, block, new_kind(world.hall, title, elders, behind, False))


def end_kind(world, call, scope, name):
    """A kind whose rows are done is put to its name."""
    block = call.blocks.pop()
    world.hall.put(scope, name, block.value)
    world.hall.loose(block.value)
