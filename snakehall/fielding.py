"""Fields of beings and kinds, and items of lists and tables."""

from snakehall.firsts import along, order_of_being
from snakehall.reckoning import need_key, need_room
from snakehall.trouble import Trouble
from snakehall.values import DEED, KIND, is_form


def field_of(world, value, name):
    """A being's or a kind's field of this name."""
    if is_form(value, "being"):
        return field_of_being(world, value, name)
    if is_form(value, "kind"):
        kind = along(value.own.order, name)
        if kind is not None:
            return kind.parts[name]
    raise Trouble("NoField")


def field_of_being(world, being, name):
    """A being's own field, or what its kind's order has, deeds tied to the being."""
    if name in being.parts:
        return being.parts[name]
    kind = along(order_of_being(being), name)
    if kind is None:
        raise Trouble("NoField")
    part = kind.parts[name]
    return tied(world, being, part) if is_form(part, "deed") else part


def tied(world, being, deed):
    """A new thing of a being and a deed."""
    thing = world.hall.make("tied", None)
    world.hall.put(thing, KIND, being)
    world.hall.put(thing, DEED, deed)
    return thing


def need_own_fields(value):
    """Refuses what has no fields that a program may set and let go."""
    if is_form(value, "being"):
        return
    if is_form(value, "kind") and not value.own.is_first:
        return
    raise Trouble("NoField")


def set_field(world, thing, name, value):
    """Sets a being's own field or a kind's part."""
    need_own_fields(thing)
    world.hall.put(thing, name, value)


def drop_field(world, thing, name):
    """Takes a being's own field or a kind's part out."""
    need_own_fields(thing)
    if name not in thing.parts:
        raise Trouble("NoField")
    world.hall.take(thing, name)


def item_of(thing, key):
    """A list's or a table's item."""
    need_key(thing, key)
    if key not in thing.parts:
        raise Trouble("NoItem")
    return thing.parts[key]


def set_item(world, thing, key, value):
    """Sets an item, or puts one behind."""
    need_key(thing, key)
    if key not in thing.parts:
        if thing.form == "list" and key != len(thing.parts):
            raise Trouble("NoItem")
        need_room(len(thing.parts) + 1)
    world.hall.put(thing, key, value)


def drop_item(world, thing, key):
    """Takes an item out: of a list the last one alone."""
    need_key(thing, key)
    if key not in thing.parts:
        raise Trouble("NoItem")
    if thing.form == "list" and key != len(thing.parts) - 1:
        raise Trouble("NoItem")
    world.hall.take(thing, key)
