"""The sweep: things that can not be come to any more are let go, rings among them."""

from snakehall.hall import Ends, Held, Thing


def reached(hall, roots):
    """The rising list of the numbers of all things that can be come to from some values."""
    found = {}
    row = list(roots)
    while row:
        value = row.pop()
        if isinstance(value, Thing) and value.number not in found and hall.is_there(value):
            found[value.number] = True
            row.extend(values_in(value))
    return sorted(found)


def values_in(thing):
    """The list of the values that can be come to from a thing in one step."""
    values = list(thing.parts.values())
    if isinstance(thing.own, Held):
        values.extend(thing.own.held())
    return values


def swept(hall, around):
    """Lets all things go that can not be come to, and tells the list of their numbers."""
    if hall.is_busy():
        return []
    lost = beyond(hall, hall.all_there(), around.held())
    hall.ask_lasts(lost)
    # The lasts may have changed what can be come to, and by whom.
    others = without(hall.all_there(), lost)
    ending = beyond(hall, lost, list(around.held()) + others)
    numbers = [thing.number for thing in ending]
    hall.go_together(ending)
    return numbers


def beyond(hall, things, roots):
    """Those of some things that can not be come to from the roots."""
    found = {number: True for number in reached(hall, roots)}
    return [thing for thing in things if thing.number not in found]


def without(things, others):
    """Those of some things that are none of the others."""
    numbers = {thing.number: True for thing in others}
    return [thing for thing in things if thing.number not in numbers]


class Sweeps(Ends):
    """An ender that does what it is told, sweeps among it."""

    def __init__(self):
        super().__init__()
        self.answers = []

    def lay(self, hall):
        """Tells the hall in which the deeds are done."""
        super().lay(hall)

    def plan(self, thing, deeds):
        """What is done when a thing's last is asked, in order."""
        super().plan(thing, deeds)

    def last(self, thing):
        """Does what is planned for a thing, as far as it can be done."""
        super().last(thing)

    def asked(self):
        """The list of the numbers of the things whose last was asked."""
        return super().asked()

    def told(self):
        """The list of what the sweeps told."""
        return [list(answer) for answer in self.answers]

    def follow(self, deed):
        """Does a deed whose things are all there."""
        if deed[0] == "sweep":
            self.answers.append(swept(self.hall, Held(deed[1:])))
        else:
            super().follow(deed)
