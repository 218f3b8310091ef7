"""Values: what is so, what is the same, and how they are shown."""

from snakehall.hall import Thing

# Where a being holds its kind, and a tied thing its deed behind its being: fields have texts as keys, so that numbers
# are free for these.
KIND = 0
DEED = 1


class Named:
    """The own of a thing that is shown with a name: a deed, a kind or a loop."""

    def __init__(self, title):
        self.title = title


def is_number(value):
    """Whether a value is a number; to Python yes and no are some, too."""
    return isinstance(value, int) and not isinstance(value, bool)


def is_form(value, form):
    """Whether a value is a thing of this form."""
    return isinstance(value, Thing) and value.form == form


def is_so(value):
    """Whether a condition holds that has this value."""
    if isinstance(value, Thing):
        return True
    return bool(value)


def same(one, other):
    """Whether two values are like numbers, like texts, the same word, or one and the same thing."""
    # To Python 1 is like True, and 0 like False.
    if isinstance(one, bool) != isinstance(other, bool):
        return False
    return one == other


def shown(value):
    """The text of a value."""
    if isinstance(value, Thing):
        return shown_thing(value)
    if value is None:
        return "none"
    if value is True:
        return "yes"
    if value is False:
        return "no"
    return str(value)


def shown_thing(thing):
    """The text of a thing: its form, and its size or a name."""
    if thing.form in ("list", "table"):
        return f"{thing.form} {len(thing.parts)}"
    return f"{thing.form} {named_by(thing).own.title}"


def named_by(thing):
    """The thing that has the name with which a thing is shown."""
    if thing.form == "being":
        return thing.parts[KIND]
    if thing.form == "tied":
        return thing.parts[DEED]
    return thing
