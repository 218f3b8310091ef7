"""The hall: things, counted by their holders, and let go where nobody holds them."""


class Thing:
    """Something that can be held, and that holds its parts."""

    def __init__(self, form, number, own):
        self.form = form
        self.number = number
        self.count = 0
        self.parts = {}
        self.own = own


class Hall:
    """All things that are there; the ender is asked for a thing's last ahead of its going."""

    def __init__(self, ender):
        self.ender = ender
        self.highest = 0
        self.there = {}
        self.left = []
        self.ended = {}
        self.waiting = {}
        self.works = 0

    def make(self, form, own):
        """A new thing, which nobody holds."""
        self.highest += 1
        thing = Thing(form, self.highest, own)
        self.there[thing.number] = thing
        return thing

    def hold(self, value):
        """One hold more of a thing; nothing of other values."""
        if isinstance(value, Thing):
            value.count += 1

    def loose(self, value):
        """One hold less of a thing; without any it is let go, and all that goes with it."""
        row = []
        self.unhold(value, row)
        self.work_off(row)

    def put(self, thing, key, value):
        """Puts a part into a thing, in place of what stood there."""
        self.hold(value)
        old = thing.parts.get(key)
        thing.parts[key] = value
        self.loose(old)

    def take(self, thing, key):
        """Takes a part out of a thing."""
        if key in thing.parts:
            self.loose(thing.parts.pop(key))

    def things(self):
        """The rising list of the numbers of the things that are there."""
        return sorted(self.there)

    def gone(self):
        """The list of the numbers of the things gone, in order."""
        return list(self.left)

    def many(self):
        """How many things are there."""
        return len(self.there)

    def all_there(self):
        """The list of the things that are there, by numbers."""
        return [self.there[number] for number in self.things()]

    def is_there(self, thing):
        """Whether a thing of this hall is not gone."""
        return self.there.get(thing.number) == thing

    def is_busy(self):
        """Whether a last is asked or a row is worked off."""
        return self.works > 0

    def unhold(self, value, row):
        """One hold less of a thing, which waits in the row if it is let go by this and waits in none yet."""
        if not isinstance(value, Thing):
            return
        value.count -= 1
        if value.count == 0 and value not in self.waiting:
            self.waiting[value] = True
            row.append(value)

    def work_off(self, row):
        """Lets each thing of a row have its turn, those that come behind meanwhile, too."""
        self.works += 1
        at = 0
        while at < len(row):
            thing = row[at]
            at += 1
            del self.waiting[thing]
            if self.is_there(thing) and thing.count == 0:
                self.end(thing, row)
        self.works -= 1

    def end(self, thing, row):
        """Asks a thing's last; it is gone if nobody holds it then."""
        thing.count += 1
        self.ask_last(thing)
        thing.count -= 1
        if thing.count == 0:
            self.mark_gone(thing)
            self.empty(thing, row)

    def ask_last(self, thing):
        """Asks a thing's last, unless that was done before."""
        if self.ender is not None and thing not in self.ended:
            self.ended[thing] = True
            self.ender.last(thing)

    def mark_gone(self, thing):
        """From now on the thing is gone."""
        del self.there[thing.number]
        self.left.append(thing.number)

    def empty(self, thing, row):
        """Takes all parts out of a thing that is gone and looses them."""
        parts = list(thing.parts.values())
        thing.parts.clear()
        for part in parts:
            self.unhold(part, row)

    def ask_lasts(self, things):
        """Asks the lasts of several things, each of which has one hold more all the while."""
        self.works += 1
        for thing in things:
            thing.count += 1
        for thing in things:
            self.ask_last(thing)
        for thing in things:
            thing.count -= 1
        self.works -= 1

    def go_together(self, things):
        """Several things are gone at once; what goes with them is the work of one row."""
        for thing in things:
            self.mark_gone(thing)
        row = []
        for thing in things:
            self.empty(thing, row)
        self.work_off(row)


class Held:
    """An own that tells values which can be come to from its thing."""

    def __init__(self, some):
        self.has = list(some)

    def held(self):
        """The list of what stands in it."""
        return list(self.has)


class Ends:
    """An ender that does what it is told."""

    def __init__(self):
        self.hall = None
        self.plans = {}
        self.numbers = []
        self.holds = {}

    def lay(self, hall):
        """Tells the hall in which the deeds are done."""
        self.hall = hall

    def plan(self, thing, deeds):
        """What is done when a thing's last is asked, in order."""
        self.plans[thing] = list(deeds)

    def last(self, thing):
        """Does what is planned for a thing, as far as it can be done."""
        self.numbers.append(thing.number)
        for deed in list(self.plans.get(thing, ())):
            if self.hall is not None and self.has_all(deed[1:]):
                self.follow(deed)

    def asked(self):
        """The list of the numbers of the things whose last was asked."""
        return list(self.numbers)

    def has_all(self, values):
        """Whether all things among some values are there."""
        return all([self.hall.is_there(value) for value in values if isinstance(value, Thing)])

    def follow(self, deed):
        """Does a deed whose things are all there."""
        word, thing = deed[:2]
        if word == "hold":
            self.holds[thing] = self.holds.get(thing, 0) + 1
            self.hall.hold(thing)
        elif word == "loose":
            self.loose_own(thing)
        elif word == "put":
            self.hall.put(thing, deed[2], deed[3])
        elif word == "take":
            self.hall.take(thing, deed[2])
        elif word == "make":
            self.hall.put(thing, deed[2], self.hall.make("made", None))

    def loose_own(self, thing):
        """Looses a thing only where an earlier deed holds it: the holds of others are not its to loose."""
        if self.holds.get(thing, 0) > 0:
            self.holds[thing] -= 1
            self.hall.loose(thing)
