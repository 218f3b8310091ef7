"""Calls of deeds, tied things and kinds, loops that are asked, and the lasts of beings and loops."""

from snakehall.calls import MOST_CALLS, Way
from snakehall.firsts import ERROR, along, is_of, order_of_being
from snakehall.leaving import answered, go_way, no_more
from snakehall.trouble import Trouble
from snakehall.values import DEED, KIND, is_form

BEGIN = "begin"
END = "end"
WORDS = "words"


def call_value(world, call, value, arguments):
    """Calls a value: a deed, a tied thing or a kind."""
    if is_form(value, "deed"):
        start(world, value, arguments, "deed")
    elif is_form(value, "tied"):
        start(world, value.parts[DEED], [value.parts[KIND], *arguments], "deed")
    elif is_form(value, "kind"):
        call_kind(world, call, value, arguments)
    else:
        raise Trouble("BadCall")


def start(world, deed, arguments, asker):
    """Begins a deed's call, or makes a loop of it, which is the answer at once; tells the call."""
    doing = deed.own
    if len(arguments) != len(doing.given):
        raise Trouble("BadCall")
    if not doing.hands and is_full(world):
        raise Trouble("TooDeep")
    scope = world.new_scope(deed, arguments)
    world.hall.hold(scope)
    call = world.new_call(doing, scope, asker)
    if doing.hands:
        loop = world.hall.make("loop", call)
        world.hall.hold(loop)
        answered(world, asker, loop)
    else:
        go_into(world, call)
    return call


def is_full(world):
    """Whether no call more can be there."""
    return len(world.calls) >= MOST_CALLS


def go_into(world, call):
    """A call goes from now on."""
    call.state = "goes"
    world.calls.append(call)


def call_kind(world, call, kind, arguments):
    """Makes a new being and begins it."""
    being = world.new_being(kind)
    # Held ahead of all that may fail: the being is there when an error comes.
    world.come_to(call, being)
    holder = along(kind.own.order, BEGIN)
    if holder is not None:
        if not is_form(holder.parts[BEGIN], "deed"):
            raise Trouble("BadCall")
        start(world, holder.parts[BEGIN], [being, *arguments], "begin")
    elif is_of(being, world.firsts[ERROR]):
        if len(arguments) > 1:
            raise Trouble("BadCall")
        world.hall.put(being, WORDS, arguments[0] if arguments else "")
    elif arguments:
        raise Trouble("BadCall")


def begin_super(world, call, name):
    """Finds the being and the deed of a super, and holds both."""
    being = world.read_name(call.scope, call.doing.given[0])
    world.come_to(call, being)
    kind = call.doing.kind
    if not is_of(being, kind):
        raise Trouble("BadCall")
    order = order_of_being(being)
    holder = along(order[order.index(kind) + 1:], name)
    if holder is None or not is_form(holder.parts[name], "deed"):
        raise Trouble("NoField")
    world.come_to(call, holder.parts[name])


def ask_loop(world, call, loop, asker):
    """Lets a loop go on for a pull or a for."""
    own = loop.own
    if own.state == "goes":
        raise Trouble("BadCall")
    if own.state == "over":
        if asker == "pull":
            raise Trouble("NoMore")
        no_more(world, call, asker)
    elif is_full(world):
        raise Trouble("TooDeep")
    else:
        own.asker = asker
        go_into(world, own)


def hand_out(world, call, value):
    """A loop hands out a value and waits."""
    if call.asker == "left":
        raise Trouble("NoHand")
    world.hall.hold(value)
    world.empty_basket(call)
    world.calls.pop()
    call.state = "waits"
    asker = world.calls[-1]
    if call.asker == "for":
        take_turn(world, asker, value)
    else:
        asker.basket.append(value)
        asker.stack.append(value)


def look_for_next(world, call, block):
    """A for looks for its next item, and ends where there is none."""
    thing = block.value
    if thing.form == "loop":
        ask_loop(world, call, thing, "for")
        return
    at = block.turns
    block.turns += 1
    values = block.first_keys if thing.form == "table" else thing.parts
    if at < len(values):
        value = values[at]
        world.hall.hold(value)
        take_turn(world, call, value)
    else:
        no_more(world, call, "for")


def take_turn(world, call, value):
    """A for's next item, which is held, is put to the name, and the rows are done."""
    block = call.blocks[-1]
    world.name_turn(call, block, value)
    world.hall.loose(value)
    world.turn(call, block, "rows")


def ask_last(world, thing):
    """The last of a thing: a being's end is called, a loop that waits is left."""
    if thing.form == "being":
        end_being(world, thing)
    elif thing.form == "loop" and thing.own.state == "waits":
        leave_loop(world, thing)


def end_being(world, being):
    """Calls a being's end, where there is one and a call more can be there."""
    holder = along(order_of_being(being), END)
    if holder is None or not is_end(holder.parts[END]) or is_full(world):
        return
    world.run(start(world, holder.parts[END], [being], "end"))


def is_end(part):
    """Whether a kind's part can be an end: a deed of one parameter."""
    return is_form(part, "deed") and len(part.own.given) == 1


def leave_loop(world, loop):
    """Leaves a loop that waits, as a call; where none can be there, what it holds goes among its parts."""
    call = loop.own
    if is_full(world):
        call.state = "over"
        for at, value in enumerate(call.kept()):
            loop.parts[at] = value
        call.blocks.clear()
        call.scope = None
        return
    call.asker = "left"
    go_into(world, call)
    go_way(world, call, Way("left", None))
    world.run(call)
