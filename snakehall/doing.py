"""What rows do with the values that are come to, for the walker and the machine alike."""

from snakehall.calling import ask_loop, begin_super, call_value, hand_out, start
from snakehall.calls import Way
from snakehall.fielding import drop_field, drop_item, field_of, item_of, set_field, set_item
from snakehall.firsts import ERROR, is_of
from snakehall.leaving import fly, go_way
from snakehall.reckoning import is_key, joined, reckoned, size_of
from snakehall.sweeping import swept
from snakehall.trouble import Trouble
from snakehall.values import is_form, is_so, shown

WORDS = {"yes": True, "no": False, "none": None}


def come_to_plain(world, call, row):
    """A number or a text."""
    world.come_to(call, row[1])


def come_to_word(world, call, row):
    """yes, no or none."""
    world.come_to(call, WORDS[row[0]])


def come_to_asked(world, call, row):
    """The next one of the given words."""
    world.come_to(call, world.next_word())


def come_to_list(world, call, row):
    """A list of the values come to last."""
    world.come_to(call, world.new_list(call.popped(row[1])))


def come_to_table(world, call, row):
    """A table of pairs, of which all keys and values are come to."""
    values = call.popped(2 * row[1])
    keys = values[::2]
    if not all([is_key(key) for key in keys]):
        raise Trouble("BadKind")
    table = world.hall.make("table", None)
    for key, value in zip(keys, values[1::2]):
        world.hall.put(table, key, value)
    world.come_to(call, table)


def come_to_reckoned(world, call, row):
    """What a sign between two values makes of them."""
    one, other = call.popped(2)
    if row[0] == "+" and is_form(one, "list") and is_form(other, "list"):
        world.come_to(call, world.new_list(joined(one, other)))
    else:
        world.come_to(call, reckoned(row[0], one, other))


def come_to_not(world, call, row):
    """Whether the value is not so."""
    world.come_to(call, not is_so(call.stack.pop()))


def come_to_whole(world, call, row):
    """The value of one side of an and or or is the value of the whole."""
    world.come_to(call, call.stack.pop())


def come_to_size(world, call, row):
    """The size of the value."""
    world.come_to(call, size_of(call.stack.pop()))


def come_to_field(world, call, row):
    """A field of the value."""
    world.come_to(call, field_of(world, call.stack.pop(), row[1]))


def come_to_item(world, call, row):
    """An item of a value by a key."""
    thing, key = call.popped(2)
    world.come_to(call, item_of(thing, key))


def do_call(world, call, row):
    """A call of a value."""
    value, *arguments = call.popped(row[1] + 1)
    call_value(world, call, value, arguments)


def find_super(world, call, row):
    """The being and the deed of a super."""
    begin_super(world, call, row[1])


def do_super(world, call, row):
    """A call of the deed that super found, with its being ahead."""
    being, deed, *arguments = call.popped(row[1] + 2)
    start(world, deed, [being, *arguments], "deed")


def do_pull(world, call, row):
    """A loop is asked for what it hands out next."""
    loop = call.stack.pop()
    if not is_form(loop, "loop"):
        raise Trouble("BadKind")
    ask_loop(world, call, loop, "pull")


def do_setfield(world, call, row):
    """A field is set."""
    thing, value = call.popped(2)
    set_field(world, thing, row[1], value)
    world.empty_basket(call)


def do_setitem(world, call, row):
    """An item is set."""
    thing, key, value = call.popped(3)
    set_item(world, thing, key, value)
    world.empty_basket(call)


def do_say(world, call, row):
    """A value is said."""
    world.said.append(shown(call.stack.pop()))
    world.empty_basket(call)


def do_nothing(world, call, row):
    """An expression was all that was to be done."""
    call.stack.pop()
    world.empty_basket(call)


def do_give(world, call, row):
    """An answer is given."""
    value = call.stack.pop()
    world.hall.hold(value)
    go_way(world, call, Way("give", value))


def do_hand(world, call, row):
    """A value is handed out."""
    hand_out(world, call, call.stack.pop())


def do_raise(world, call, row):
    """An error is raised."""
    error = call.stack.pop()
    need_error(world, error)
    fly(world, error)


def do_raise_from(world, call, row):
    """An error is raised with a cause."""
    error, cause = call.popped(2)
    need_error(world, error)
    if cause is not None:
        need_error(world, cause)
    world.hall.put(error, "cause", cause)
    fly(world, error)


def need_error(world, value):
    """Refuses what is no error."""
    if not is_of(value, world.firsts[ERROR]):
        raise Trouble("BadCall")


def do_raise_again(world, call, row):
    """The error of the nearest except's rows around is raised."""
    errors = [block.value for block in call.blocks if block.form == "try" and block.arm == "except"]
    if not errors:
        raise Trouble("BadCall")
    fly(world, errors[-1])


def do_dropfield(world, call, row):
    """A field is let go."""
    drop_field(world, call.stack.pop(), row[1])
    world.empty_basket(call)


def do_dropitem(world, call, row):
    """An item is let go."""
    thing, key = call.popped(2)
    drop_item(world, thing, key)
    world.empty_basket(call)


def do_way(world, call, row):
    """A loop's rows are left by break or next."""
    go_way(world, call, Way(row[0], None))


def do_sweep(world, call, row):
    """What can not be come to is swept."""
    swept(world.hall, world)


DOINGS = {
    "number": come_to_plain, "text": come_to_plain, "yes": come_to_word, "no": come_to_word, "none": come_to_word,
    "ask": come_to_asked, "list": come_to_list, "table": come_to_table, "+": come_to_reckoned, "-": come_to_reckoned,
    "*": come_to_reckoned, "<": come_to_reckoned, "==": come_to_reckoned, "not": come_to_not, "and": come_to_whole,
    "or": come_to_whole, "pull": do_pull, "size": come_to_size, "field": come_to_field, "item": come_to_item,
    "call": do_call, "super": find_super, "callsuper": do_super, "setfield": do_setfield, "setitem": do_setitem,
    "say": do_say, "do": do_nothing, "give": do_give, "hand": do_hand, "again": do_raise_again, "raise": do_raise,
    "raisefrom": do_raise_from, "dropfield": do_dropfield, "dropitem": do_dropitem, "break": do_way, "next": do_way,
    "sweep": do_sweep,
}


def is_doing(row):
    """Whether a row is one of those that are done here."""
    return row[0] in DOINGS


def do_row(world, call, row):
    """Does a row."""
    doing = DOINGS[row[0]]
    doing(world, call, row)
