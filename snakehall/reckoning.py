"""What a program reckons with values that need no hall, and what is too big."""

from snakehall.hall import Thing
from snakehall.trouble import Trouble
from snakehall.values import is_form, is_number, same

LARGEST = 10 ** 30
MOST_SIGNS = 400
MOST_PARTS = 400


def fitting_number(number):
    """A number that is not beyond the largest one on either side of nought."""
    if abs(number) > LARGEST:
        raise Trouble("TooBig")
    return number


def fitting_text(text):
    """A text that is not too long."""
    if len(text) > MOST_SIGNS:
        raise Trouble("TooBig")
    return text


def need_room(many):
    """Refuses so many parts where they are too many for a list or a table."""
    if many > MOST_PARTS:
        raise Trouble("TooBig")


def are_numbers(one, other):
    """Whether both are numbers."""
    return is_number(one) and is_number(other)


def are_texts(one, other):
    """Whether both are texts."""
    return isinstance(one, str) and isinstance(other, str)


def added(one, other):
    """The sum of two numbers, or two texts one behind the other."""
    if are_numbers(one, other):
        return fitting_number(one + other)
    if are_texts(one, other):
        return fitting_text(one + other)
    raise Trouble("BadKind")


def joined(one, other):
    """The list of the values of two lists."""
    values = list(one.parts.values()) + list(other.parts.values())
    need_room(len(values))
    return values


def less_by(one, other):
    """The difference of two numbers."""
    if are_numbers(one, other):
        return fitting_number(one - other)
    raise Trouble("BadKind")


def times(one, other):
    """The product of two numbers."""
    if are_numbers(one, other):
        return fitting_number(one * other)
    raise Trouble("BadKind")


def is_below(one, other):
    """Whether a number is below another one, or a text ahead of another one."""
    if are_numbers(one, other) or are_texts(one, other):
        return one < other
    raise Trouble("BadKind")


def is_like(one, other):
    """Whether two values are the same."""
    return same(one, other)


SIGNS = {"+": added, "-": less_by, "*": times, "<": is_below, "==": is_like}


def reckoned(sign, one, other):
    """What a sign between two values that are no lists makes of them."""
    reckon = SIGNS[sign]
    return reckon(one, other)


def size_of(value):
    """The size of a text, list or table."""
    if isinstance(value, str):
        return len(value)
    if is_form(value, "list") or is_form(value, "table"):
        return len(value.parts)
    raise Trouble("BadKind")


def is_key(value):
    """Whether a value may be a table's key."""
    return is_number(value) or isinstance(value, str)


def need_key(thing, key):
    """Refuses a key by which a thing has no items, and what has none at all."""
    if isinstance(thing, Thing):
        if thing.form == "list" and is_number(key):
            return
        if thing.form == "table" and is_key(key):
            return
    raise Trouble("BadKind")
