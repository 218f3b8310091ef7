"""Ways out: how blocks are left, how errors fly, and how calls end."""

from snakehall.calls import Way
from snakehall.firsts import is_of
from snakehall.trouble import Trouble


def fly(world, error):
    """An error, held from now on, leaves the call that goes."""
    world.hall.hold(error)
    go_way(world, world.calls[-1], Way("error", error))


def go_way(world, call, way):
    """Leaves a statement and blocks until something stops the way; an error may leave one call behind the other."""
    way = past_blocks(world, call, way)
    while way is not None:
        way = end_call(world, call, way)
        if way is not None:
            call = world.calls[-1]
            way = past_blocks(world, call, way)


def past_blocks(world, call, way):
    """Leaves a call's statement and blocks from the innermost one; tells the way out of the call, None if it stops."""
    call.forget()
    world.empty_basket(call)
    while call.blocks and way is not None:
        way = past_block(world, call, call.blocks[-1], way)
    return way


def past_block(world, call, block, way):
    """Leaves the innermost block; tells the way that goes on behind it, None where the block stops it."""
    if block.form == "try":
        return past_try(world, call, block, way)
    if block.form in ("while", "for") and way.form == "next":
        world.turn(call, block, "next")
        return None
    leave_block(world, call, block)
    if block.form in ("while", "for") and way.form == "break":
        world.turn(call, block, "behind")
        return None
    return way


def leave_block(world, call, block):
    """The innermost block is left, and what it holds is loosed."""
    call.blocks.pop()
    world.hall.loose(block.value)


def past_try(world, call, block, way):
    """Leaves a try, unless an except takes the error or last words are to be said first."""
    if block.arm == "last":
        return past_last_words(world, call, block, way)
    if block.arm == "first" and way.form == "error":
        way = past_excepts(world, call, block, way)
        if way is None:
            return None
    # The error of an except's rows is loosed ahead of the last words: its rows are left by then.
    world.hall.loose(block.value)
    block.value = None
    if not world.has_arm(block, "last"):
        call.blocks.pop()
        return way
    block.arm = "last"
    block.way = way
    block.value = way.value
    world.turn(call, block, "last")
    return None


def past_last_words(world, call, block, way):
    """Leaves last words by a way of their own, which goes on in place of the one that they held up."""
    call.blocks.pop()
    kept = block.way
    if kept.form == "left":
        # A loop that is left goes on being left, whatever way its last words take.
        world.hall.loose(way.value)
        return kept
    world.hall.loose(kept.value)
    return way


def past_excepts(world, call, block, way):
    """Shows an error to a try's excepts; tells the way that goes past them, None where one takes the error."""
    for at in range(world.many_excepts(block)):
        try:
            takes = is_of(way.value, world.except_kind(call, block, at))
        except Trouble as trouble:
            return in_its_place(world, way, trouble.title)
        if takes:
            block.arm = "except"
            block.value = way.value
            world.name_error(call, block, at)
            world.turn(call, block, at)
            return None
    return way


def in_its_place(world, way, title):
    """The way of a new error, for which the one that flew is loosed."""
    error = world.new_error(title)
    world.hall.hold(error)
    world.hall.loose(way.value)
    return Way("error", error)


def end_arm(world, call, block):
    """The rows of a try's arm have come to their end."""
    if block.arm == "last":
        call.blocks.pop()
        go_on_behind(world, call, block)
    elif block.arm == "first" and world.has_arm(block, "else"):
        block.arm = "else"
        world.turn(call, block, "else")
    elif past_try(world, call, block, Way("on", None)) is not None:
        world.turn(call, block, "behind")


def go_on_behind(world, call, block):
    """The way that last words held up goes on."""
    if block.way.form == "on":
        world.turn(call, block, "behind")
    else:
        go_way(world, call, block.way)


def end_call(world, call, way):
    """A call whose blocks are left ends; tells the way of an error that flies on to the asker, else None."""
    world.empty_basket(call)
    world.hall.loose(call.scope)
    call.scope = None
    if call.asker == "program":
        world.way = way
        call.state = "over"
        return None
    if call.asker in ("end", "left"):
        # Nobody takes it, and the call is there still.
        world.hall.loose(way.value)
        end_going(world, call)
        return None
    end_going(world, call)
    if way.form == "error":
        return way
    return answered(world, call.asker, way.value)


def end_going(world, call):
    """The call that goes is there no more."""
    world.calls.pop()
    call.state = "over"


def answered(world, asker, value):
    """An asker is given an answer that is held; tells the way of an error that comes of it, else None."""
    call = world.calls[-1]
    if asker in ("begin", "end"):
        world.hall.loose(value)
        return None
    call.basket.append(value)
    if asker == "deed":
        call.stack.append(value)
        return None
    return no_more(world, call, asker)


def no_more(world, call, asker):
    """A loop that was asked is over: a for ends, a pull has the way of an error."""
    if asker == "for":
        world.empty_basket(call)
        block = call.blocks[-1]
        leave_block(world, call, block)
        world.turn(call, block, "behind")
        return None
    error = world.new_error("NoMore")
    world.hall.hold(error)
    return Way("error", error)
