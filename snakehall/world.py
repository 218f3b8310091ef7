"""The world of a program: its hall, its names and calls, and what is told of it."""

from snakehall.calling import ask_last
from snakehall.calls import Doing
from snakehall.firsts import ERROR, first_kinds, is_of
from snakehall.hall import Hall, Held, Thing
from snakehall.leaving import fly
from snakehall.sweeping import swept
from snakehall.trouble import Going, Trouble
from snakehall.values import KIND, is_form, shown

# Where a deed and a scope hold the scope around: names are texts, so that numbers are free for this.
AROUND = 0
MOST_CAUSES = 10


class World:
    """What a walker and a machine have in common; how calls go through their rows is the matter of each of them."""

    def __init__(self, given, most):
        self.hall = Hall(self)
        self.firsts = first_kinds(self.hall)
        # The program's names are a scope that is no thing of the hall.
        self.program = Thing("scope", 0, None)
        self.calls = []
        self.way = None
        self.given = list(given)
        self.asks = 0
        self.most = most
        self.said = []
        self.steps = []
        self.beings = {}

    def proceed(self, call):
        """Does the next bit of a call."""
        raise NotImplementedError("how a call goes on")

    def new_call(self, doing, scope, asker):
        """A call that stands ahead of its first row."""
        raise NotImplementedError("what a call is")

    def turn(self, call, block, arm):
        """Goes on in an arm of a block ("rows", "next", "else", "last" or an except's place), or "behind" it."""
        raise NotImplementedError("where arms stand")

    def has_arm(self, block, arm):
        """Whether a try has rows behind else, or last words."""
        raise NotImplementedError("which arms there are")

    def many_excepts(self, block):
        """How many excepts a try has."""
        raise NotImplementedError("which excepts there are")

    def except_kind(self, call, block, at):
        """The kind that a try's except takes."""
        raise NotImplementedError("where a name is sought")

    def name_error(self, call, block, at):
        """Puts the error that a try's except takes to the name behind as."""
        raise NotImplementedError("where a name is set")

    def name_turn(self, call, block, value):
        """Puts a for's item to its name."""
        raise NotImplementedError("where a name is set")

    def last(self, thing):
        """What the hall asks ahead of a thing's going."""
        ask_last(self, thing)

    def held(self):
        """The list of all values from which a sweep comes to things."""
        values = list(self.firsts.values()) + list(self.program.parts.values())
        for call in self.calls:
            values.extend(call.held())
        return values

    def note_step(self, number):
        """A statement's step is due."""
        if len(self.steps) >= self.most:
            raise Going("a step more than most is due")
        self.steps.append((number, len(self.calls), self.hall.many() - len(self.firsts)))

    def next_word(self):
        """The next one of the given words, None behind the last one."""
        at = self.asks
        self.asks += 1
        return self.given[at] if at < len(self.given) else None

    def come_to(self, call, value):
        """The value of an expression is come to: the call's basket holds it."""
        self.hall.hold(value)
        call.basket.append(value)
        call.stack.append(value)

    def empty_basket(self, call):
        """Looses all that stands in a call's basket, in order."""
        values = list(call.basket)
        call.basket.clear()
        for value in values:
            self.hall.loose(value)

    def read_name(self, scope, name):
        """The value of a name that is sought in this scope alone, or among the program's names and the first kinds."""
        if name in scope.parts:
            return scope.parts[name]
        if scope == self.program and name in self.firsts:
            return self.firsts[name]
        raise Trouble("NoName")

    def read_kind(self, scope, name):
        """The value of a name, which must be a kind."""
        value = self.read_name(scope, name)
        if not is_form(value, "kind"):
            raise Trouble("BadKind")
        return value

    def new_being(self, kind):
        """A new being, noted as the next one made."""
        being = self.hall.make("being", None)
        self.beings[being.number] = (kind.own.title, len(self.beings) + 1)
        self.hall.put(being, KIND, kind)
        return being

    def new_error(self, title):
        """An error that comes by itself."""
        error = self.new_being(self.firsts[title])
        self.hall.put(error, "words", "")
        return error

    def new_list(self, values):
        """A new list of these items."""
        thing = self.hall.make("list", None)
        for at, value in enumerate(values):
            self.hall.put(thing, at, value)
        return thing

    def new_scope(self, deed, arguments):
        """A new scope for a deed's call, with its parameters in order."""
        scope = self.hall.make("scope", None)
        if AROUND in deed.parts:
            self.hall.put(scope, AROUND, deed.parts[AROUND])
        for name, value in zip(deed.own.given, arguments):
            self.hall.put(scope, name, value)
        return scope

    def new_deed(self, call, doing):
        """A new deed, made in a call."""
        deed = self.hall.make("deed", doing)
        if call.scope is not None:
            self.hall.put(deed, AROUND, call.scope)
        return deed

    def run(self, call):
        """Goes on until a call goes no more; an error that comes by itself flies from where it came."""
        while call.state == "goes":
            title = self.trouble_in(self.calls[-1])
            if title is not None:
                fly(self, self.new_error(title))

    def trouble_in(self, call):
        """Does the next bit of a call; tells the title of the error that comes of it by itself, else None."""
        try:
            self.proceed(call)
        except Trouble as trouble:
            return trouble.title
        return None

    def whole(self, source):
        """Runs a program whose rows are told by the source, and tells what came of it."""
        call = self.new_call(Doing("", (), False, None, source), None, "program")
        call.state = "goes"
        self.calls.append(call)
        try:
            self.run(call)
            end = self.close()
        except Going:
            end = ("going",)
        gone = [self.beings[number] for number in self.hall.gone() if number in self.beings]
        return (list(self.said), end, list(self.steps), gone)

    def close(self):
        """The program ends: its error is told, its names are let go, and all that is left is swept."""
        end = self.end_told()
        self.hall.loose(self.way.value)
        while self.program.parts:
            self.hall.take(self.program, list(self.program.parts)[0])
        swept(self.hall, Held(list(self.firsts.values())))
        return end

    def end_told(self):
        """How the program ended."""
        if self.way.form != "error":
            return ("ended",)
        title, words = told_of(self.way.value)
        return ("error", title, words, self.causes_of(self.way.value))

    def causes_of(self, error):
        """The list of the titles and words along the causes of an error."""
        causes = []
        cause = error.parts.get("cause")
        while is_of(cause, self.firsts[ERROR]) and len(causes) < MOST_CAUSES:
            causes.append(told_of(cause))
            cause = cause.parts.get("cause")
        return causes


def told_of(error):
    """An error's title and words."""
    return (error.parts[KIND].own.title, shown(error.parts.get("words", "")))
