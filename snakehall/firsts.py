"""The first kinds, and what kinds are."""

from snakehall.values import KIND, Named, is_form

ERROR = "Error"
BELOW_ERROR = (
    "NoName", "NoField", "NoItem", "NoMore", "NoOrder", "NoHand", "BadCall", "BadKind", "TooBig", "TooDeep",
)


class Kindred(Named):
    """The own of a kind: its name, its order, and whether it is a first kind."""

    def __init__(self, title, is_first):
        super().__init__(title)
        self.order = []
        self.is_first = is_first


def new_kind(hall, title, elders, behind, is_first):
    """A new kind; behind is its order without itself."""
    kind = hall.make("kind", Kindred(title, is_first))
    kind.own.order = [kind, *behind]
    for at, elder in enumerate(elders):
        hall.put(kind, at, elder)
    return kind


def first_kinds(hall):
    """A dict of the first kinds by their titles, each held once for ever."""
    error = new_kind(hall, ERROR, [], [], True)
    firsts = {ERROR: error}
    for title in BELOW_ERROR:
        firsts[title] = new_kind(hall, title, [error], [error], True)
    for kind in firsts.values():
        hall.hold(kind)
    return firsts


def order_of_being(being):
    """The order of a being's kind."""
    return being.parts[KIND].own.order


def is_of(value, kind):
    """Whether a value is a being in whose order a kind stands."""
    return is_form(value, "being") and kind in order_of_being(value)


def along(order, name):
    """The first kind of an order that has a part of this name, None where none has."""
    for kind in order:
        if name in kind.parts:
            return kind
    return None
