"""Another telling of [12] to [23], by calls and generators of Python's, to be compared with the walker and the machine.

It uses the hall and the sweep of the package, which have tests of their own, and nothing else of what runs programs.
"""

from snakehall.hall import Hall, Held, Thing
from snakehall.naming import own_names
from snakehall.sweeping import swept

BELOW = "NoName NoField NoItem NoMore NoOrder NoHand BadCall BadKind TooBig TooDeep".split()
BLOCKS = {"if": (2, 3), "while": (2,), "for": (3,), "deed": (3,), "kind": (3,)}


class Stop(Exception):
    """A step more than most."""


class Out(Exception):
    """A way out of blocks, with what it holds."""

    def __init__(self, value=None):
        super().__init__()
        self.value = value


class Err(Out):
    pass


class Give(Out):
    pass


class Break(Out):
    pass


class Next(Out):
    pass


class Left(Out):
    pass


class Own:
    def __init__(self, **more):
        self.__dict__.update(more)


class LoopOwn(Held):
    def __init__(self, call, rows):
        super().__init__([])
        self.call, self.state, self.rows, self.title = call, "new", rows, None

    def held(self):
        return self.call.all_held()


class Running:
    """A call."""

    def __init__(self, deed, scope):
        self.deed, self.scope = deed, scope
        self.basket, self.holds, self.errors = [], [], []
        self.leaving = False

    def all_held(self):
        return self.basket + self.holds + [self.scope]


def numbered(tree, number=0):
    """Rows as triples of a number, a statement and the lists of the rows in its blocks."""
    told = []
    for statement in tree:
        here, number = number, number + 1
        if statement[0] == "try":
            blocks = [statement[1], *[each[2] for each in statement[2]], statement[3], statement[4]]
        else:
            blocks = [statement[at] for at in BLOCKS.get(statement[0], ())]
        inner = []
        for block in blocks:
            rows, number = numbered(block, number)
            inner.append(rows)
        told.append((here, statement, inner))
    return told, number


def has_hand(rows):
    return any(
        each[1][0] == "hand" or each[1][0] not in ("deed", "kind") and any(map(has_hand, each[2])) for each in rows
    )


class Telling:
    def __init__(self, given, most):
        self.hall = Hall(self)
        self.kinds = {}
        for title in ["Error"] + BELOW:
            kind = self.kinds[title] = self.hall.make("kind", Own(title=title, first=True))
            kind.own.order = [kind] if title == "Error" else [kind, self.kinds["Error"]]
            for elder in kind.own.order[1:]:
                self.hall.put(kind, 0, elder)
            self.hall.hold(kind)
        self.names = Thing("names", 0, None)
        self.given, self.most = list(given), most
        self.calls, self.said, self.steps, self.made = [], [], [], {}

    # What there is.

    def held(self):
        return [*self.kinds.values(), *self.names.parts.values(), *[v for call in self.calls for v in call.all_held()]]

    def step(self, number):
        if len(self.steps) == self.most:
            raise Stop
        self.steps.append((number, len(self.calls), len(self.hall.things()) - 11))

    def being(self, kind):
        being = self.hall.make("being", None)
        self.made[being.number] = (kind.own.title, len(self.made) + 1)
        self.hall.put(being, 0, kind)
        return being

    def fail(self, title):
        error = self.being(self.kinds[title])
        self.hall.put(error, "words", "")
        self.hall.hold(error)
        raise Err(error)

    def need(self, fine, title):
        if not fine:
            self.fail(title)

    def is_error(self, value):
        return form(value) == "being" and self.kinds["Error"] in value.parts[0].own.order

    def empty(self, call):
        basket, call.basket = call.basket, []
        for value in basket:
            self.hall.loose(value)

    def scope_of(self, call, name):
        deed, scope = call.deed, call.scope
        while scope is not None:
            if name in deed.names:
                return scope
            deed, scope = deed.around, scope.parts.get(0)
        return self.names

    def read(self, call, name):
        scope = self.scope_of(call, name)
        if scope is self.names and name not in scope.parts and name in self.kinds:
            return self.kinds[name]
        self.need(name in scope.parts, "NoName")
        return scope.parts[name]

    def put(self, call, name, value):
        self.hall.put(self.scope_of(call, name), name, value)

    # Expressions.

    def value(self, call, tree):
        value = self.reckon(call, tree)
        if tree[0] != "call" and tree[0] not in ("pull", "super"):
            self.hall.hold(value)
            call.basket.append(value)
        elif value is not NOTHING:
            # What a call tells is held already.
            call.basket.append(value)
        else:
            value = call.basket_value
        return value

    def reckon(self, call, tree):
        word = tree[0]
        if word in ("number", "text"):
            return tree[1]
        if word in ("yes", "no", "none"):
            return {"yes": True, "no": False, "none": None}[word]
        if word == "ask":
            return self.given.pop(0) if self.given else None
        if word == "name":
            return self.read(call, tree[1])
        if word == "list":
            return self.new_list([self.value(call, each) for each in tree[1]])
        if word == "table":
            pairs = [(self.value(call, key), self.value(call, each)) for key, each in tree[1]]
            self.need(all(plain(key) in (int, str) for key, _ in pairs), "BadKind")
            table = self.hall.make("table", None)
            for key, each in pairs:
                self.hall.put(table, key, each)
            return table
        if word == "super":
            return self.call_super(call, tree)
        if word in ("and", "or"):
            first = self.value(call, tree[1])
            so = not (first is False or first is None or plain(first) in (int, str) and not first)
            return first if so == (word == "or") else self.value(call, tree[2])
        if word == "field":
            return self.field(self.value(call, tree[1]), tree[2])
        parts = [self.value(call, each) for each in (tree[1:] if word != "call" else (tree[1], *tree[2]))]
        if word == "call":
            return self.call(call, parts[0], parts[1:])
        if word == "pull":
            return self.pull(call, parts[0])
        if word == "not":
            return parts[0] is False or parts[0] is None or plain(parts[0]) in (int, str) and not parts[0]
        if word == "size":
            if plain(parts[0]) is str:
                return len(parts[0])
            self.need(form(parts[0]) in ("list", "table"), "BadKind")
            return len(parts[0].parts)
        if word == "item":
            self.need_key(*parts)
            self.need(parts[1] in parts[0].parts, "NoItem")
            return parts[0].parts[parts[1]]
        return self.sign(word, *parts)

    def sign(self, word, one, other):
        if word == "==":
            return plain(one) is plain(other) and (one is other or plain(one) in (int, str) and one == other)
        both = plain(one) if plain(one) is plain(other) else None
        if word == "+" and form(one) == form(other) == "list":
            values = [*one.parts.values(), *other.parts.values()]
            self.need(len(values) <= 400, "TooBig")
            return self.new_list(values)
        self.need(both is int or both is str and word in "+<", "BadKind")
        told = {"+": lambda: one + other, "-": lambda: one - other, "*": lambda: one * other,
                "<": lambda: one < other}[word]()
        self.need(plain(told) is not int or -10 ** 30 <= told <= 10 ** 30, "TooBig")
        self.need(plain(told) is not str or len(told) <= 400, "TooBig")
        return told

    def new_list(self, values):
        thing = self.hall.make("list", None)
        for at, value in enumerate(values):
            self.hall.put(thing, at, value)
        return thing

    def need_key(self, thing, key):
        self.need(form(thing) == "list" and plain(key) is int or form(thing) == "table" and plain(key) in (int, str),
                  "BadKind")

    def field(self, thing, name):
        self.need(form(thing) in ("being", "kind"), "NoField")
        if form(thing) == "being":
            if name in thing.parts:
                return thing.parts[name]
            for kind in thing.parts[0].own.order:
                if name in kind.parts:
                    part = kind.parts[name]
                    if form(part) != "deed":
                        return part
                    tied = self.hall.make("tied", None)
                    self.hall.put(tied, 0, thing)
                    self.hall.put(tied, 1, part)
                    return tied
        else:
            for kind in thing.own.order:
                if name in kind.parts:
                    return kind.parts[name]
        self.fail("NoField")

    # Calls.

    def call(self, call, value, given):
        if form(value) == "deed":
            return self.call_deed(value, given)
        if form(value) == "tied":
            return self.call_deed(value.parts[1], [value.parts[0], *given])
        self.need(form(value) == "kind", "BadCall")
        being = self.being(value)
        self.hall.hold(being)
        call.basket.append(being)
        for kind in value.own.order:
            if "begin" in kind.parts:
                self.need(form(kind.parts["begin"]) == "deed", "BadCall")
                self.hall.loose(self.call_deed(kind.parts["begin"], [being, *given]))
                break
        else:
            self.need(len(given) <= self.is_error(being), "BadCall")
            if self.is_error(being):
                self.hall.put(being, "words", given[0] if given else "")
        call.basket_value = being
        return NOTHING

    def call_super(self, call, tree):
        being = self.read(call, call.deed.given[0])
        self.hall.hold(being)
        call.basket.append(being)
        self.need(form(being) == "being" and call.kind in being.parts[0].own.order, "BadCall")
        order = being.parts[0].own.order
        found = [kind.parts[tree[1]] for kind in order[order.index(call.kind) + 1:] if tree[1] in kind.parts]
        self.need(found and form(found[0]) == "deed", "NoField")
        self.hall.hold(found[0])
        call.basket.append(found[0])
        return self.call_deed(found[0], [being, *[self.value(call, each) for each in tree[2]]])

    def begin(self, thing, given):
        """A new call of a deed, which does not go yet."""
        deed = thing.own
        scope = self.hall.make("scope", None)
        if 0 in thing.parts:
            self.hall.put(scope, 0, thing.parts[0])
        for name, value in zip(deed.given, given):
            self.hall.put(scope, name, value)
        self.hall.hold(scope)
        call = Running(deed, scope)
        call.kind = thing.own.kind
        return call

    def call_deed(self, thing, given, is_end=False):
        deed = thing.own
        self.need(len(given) == len(deed.given), "BadCall")
        self.need(deed.hands or len(self.calls) < 12, "TooDeep")
        call = self.begin(thing, given)
        if deed.hands:
            loop = self.hall.make("loop", LoopOwn(call, self.rows(call, deed.rows)))
            loop.own.title = deed.title
            self.hall.hold(loop)
            return loop
        self.calls.append(call)
        answer = error = None
        try:
            for _ in self.rows(call, deed.rows):
                raise AssertionError("no loop")
        except Give as way:
            answer = way.value
        except Err as way:
            error = way
        self.empty(call)
        self.hall.loose(call.scope)
        if is_end:
            self.hall.loose(error.value if error else answer)
            answer = error = None
        self.calls.pop()
        if error:
            raise error
        return answer

    # Loops.

    def pull(self, call, loop):
        self.need(form(loop) == "loop", "BadKind")
        sort, value = self.go_on(loop)
        if sort == "over":
            call.basket.append(value)
            self.fail("NoMore")
        return value

    def go_on(self, loop):
        """A pair: "hand" and a value that is held, or "over" and an answer that is held."""
        own = loop.own
        self.need(own.state != "goes", "BadCall")
        if own.state == "over":
            return "over", None
        self.need(len(self.calls) < 12, "TooDeep")
        self.calls.append(own.call)
        own.state = "goes"
        answer = error = None
        try:
            value = next(own.rows)
            self.calls.pop()
            own.state = "waits"
            return "hand", value
        except StopIteration:
            pass
        except Give as way:
            answer = way.value
        except Err as way:
            error = way
        self.end_loop(own)
        if error:
            raise error
        return "over", answer

    def end_loop(self, own):
        self.empty(own.call)
        self.hall.loose(own.call.scope)
        own.call.scope = None
        self.calls.pop()
        own.state = "over"

    def last(self, thing):
        if thing.form == "being":
            self.end(thing)
        elif thing.form == "loop" and thing.own.state in ("new", "waits"):
            self.leave(thing)

    def end(self, being):
        for kind in being.parts[0].own.order:
            if "end" in kind.parts:
                deed = kind.parts["end"]
                if form(deed) == "deed" and len(deed.own.given) == 1 and len(self.calls) < 12:
                    answer = self.call_deed(deed, [being], True)
                    self.hall.loose(answer)
                return

    def leave(self, loop):
        own = loop.own
        call = own.call
        if len(self.calls) >= 12:
            for at, value in enumerate(call.holds[::-1] + [call.scope]):
                loop.parts[at] = value
            call.holds, call.scope = [], None
            own.state = "over"
            return
        self.calls.append(call)
        call.leaving = True
        is_new, own.state = own.state == "new", "goes"
        if not is_new:
            try:
                own.rows.throw(Left())
            except Left:
                pass
        self.end_loop(own)

    # Statements.

    def rows(self, call, rows, kind=None):
        for number, statement, inner in rows:
            if statement[0] == "while":
                yield from self.do_while(call, number, statement, inner)
                continue
            self.step(number)
            do = getattr(self, "do_" + statement[0], None)
            if do:
                yield from do(call, number, statement, inner)
                continue
            try:
                way = self.simple(call, statement, inner, kind)
            except Err:
                self.empty(call)
                raise
            self.empty(call)
            if way:
                raise way

    def simple(self, call, tree, inner, kind):
        word = tree[0]
        where = kind if kind is not None else call and self.scope_of(call, tree[1]) if len(tree) > 1 else None
        if word == "set":
            self.hall.put(where, tree[1], self.value(call, tree[2]))
        elif word == "setfield":
            thing, value = self.value(call, tree[1]), self.value(call, tree[3])
            self.need_fields(thing)
            self.hall.put(thing, tree[2], value)
        elif word == "setitem":
            thing, key, value = [self.value(call, each) for each in tree[1:]]
            self.need_key(thing, key)
            self.need(thing.form == "table" or 0 <= key <= len(thing.parts), "NoItem")
            self.need(key in thing.parts or len(thing.parts) < 400, "TooBig")
            self.hall.put(thing, key, value)
        elif word == "say":
            self.said.append(show(self.value(call, tree[1])))
        elif word == "do":
            self.value(call, tree[1])
        elif word == "give":
            value = self.value(call, tree[1])
            self.hall.hold(value)
            return Give(value)
        elif word == "again":
            self.need(call.errors, "BadCall")
            self.hall.hold(call.errors[-1])
            raise Err(call.errors[-1])
        elif word == "raise":
            error = self.value(call, tree[1])
            cause = None if tree[2] is None else self.value(call, tree[2])
            self.need(self.is_error(error) and (cause is None or self.is_error(cause)), "BadCall")
            if tree[2] is not None:
                self.hall.put(error, "cause", cause)
            self.hall.hold(error)
            raise Err(error)
        elif word == "drop":
            self.need(tree[1] in where.parts, "NoName")
            self.hall.take(where, tree[1])
        elif word == "dropfield":
            thing = self.value(call, tree[1])
            self.need_fields(thing)
            self.need(tree[2] in thing.parts, "NoField")
            self.hall.take(thing, tree[2])
        elif word == "dropitem":
            thing, key = self.value(call, tree[1]), self.value(call, tree[2])
            self.need_key(thing, key)
            self.need(key in thing.parts and (thing.form == "table" or key == len(thing.parts) - 1), "NoItem")
            self.hall.take(thing, key)
        elif word == "sweep":
            swept(self.hall, self)
        elif word == "deed":
            deed = self.hall.make("deed", Own(
                title=tree[1], given=tree[2], names=own_names(tree[3], tree[2]), rows=inner[0], kind=kind,
                hands=has_hand(inner[0]), around=call.deed))
            if call.scope is not None:
                self.hall.put(deed, 0, call.scope)
            self.hall.put(where, tree[1], deed)
        return {"break": Break(), "next": Next()}.get(word)

    def need_fields(self, thing):
        self.need(form(thing) == "being" or form(thing) == "kind" and not thing.own.first, "NoField")

    def do_hand(self, call, number, tree, inner):
        try:
            value = self.value(call, tree[1])
            self.need(not call.leaving, "NoHand")
        except Err:
            self.empty(call)
            raise
        self.hall.hold(value)
        self.empty(call)
        yield value

    def head(self, call, tree):
        """What is reckoned in a head, still in the basket."""
        try:
            return self.value(call, tree)
        except Err:
            self.empty(call)
            raise

    def is_so(self, call, tree):
        value = self.head(call, tree)
        self.empty(call)
        return isinstance(value, Thing) or bool(value)

    def do_if(self, call, number, tree, inner):
        yield from self.rows(call, inner[0] if self.is_so(call, tree[1]) else inner[1])

    def do_while(self, call, number, tree, inner):
        while True:
            self.step(number)
            if not self.is_so(call, tree[1]):
                return
            try:
                yield from self.rows(call, inner[0])
            except Break:
                return
            except Next:
                pass

    def do_for(self, call, number, tree, inner):
        thing = self.head(call, tree[2])
        if form(thing) not in ("list", "table", "loop"):
            try:
                self.fail("BadKind")
            except Err:
                self.empty(call)
                raise
        keys = list(thing.parts)
        self.hall.hold(thing)
        call.holds.append(thing)
        self.empty(call)
        try:
            at = 0
            while True:
                self.step(number)
                if thing.form == "loop":
                    sort, value = self.go_on(thing)
                    if sort == "over":
                        self.hall.loose(value)
                        break
                else:
                    if at >= len(keys if thing.form == "table" else thing.parts):
                        break
                    value = keys[at] if thing.form == "table" else thing.parts[at]
                    self.hall.hold(value)
                at += 1
                self.put(call, tree[1], value)
                self.hall.loose(value)
                try:
                    yield from self.rows(call, inner[0])
                except Next:
                    pass
        except Out as way:
            call.holds.pop()
            self.hall.loose(thing)
            if isinstance(way, Break):
                return
            raise
        call.holds.pop()
        self.hall.loose(thing)

    def do_kind(self, call, number, tree, inner):
        try:
            elders = []
            for name in tree[2]:
                elders.append(self.read(call, name))
                self.hall.hold(elders[-1])
                call.basket.append(elders[-1])
                self.need(form(elders[-1]) == "kind", "BadKind")
            order = merge([each.own.order for each in elders], elders)
            self.need(order is not None, "NoOrder")
        except Err:
            self.empty(call)
            raise
        kind = self.hall.make("kind", Own(title=tree[1], first=False))
        kind.own.order = [kind, *order]
        for at, elder in enumerate(elders):
            self.hall.put(kind, at, elder)
        self.hall.hold(kind)
        call.holds.append(kind)
        self.empty(call)
        try:
            yield from self.rows(call, inner[0], kind)
        except Out:
            call.holds.pop()
            self.hall.loose(kind)
            raise
        self.put(call, tree[1], kind)
        call.holds.pop()
        self.hall.loose(kind)

    def do_try(self, call, number, tree, inner):
        way = None
        try:
            yield from self.within_try(call, tree, inner)
        except Out as out:
            way = out
        if inner[-1]:
            call.holds.append(way and way.value)
            try:
                yield from self.rows(call, inner[-1])
            except Out as own:
                call.holds.pop()
                if isinstance(way, Left):
                    self.hall.loose(own.value)
                    raise way
                if way:
                    self.hall.loose(way.value)
                raise own
            call.holds.pop()
        if way:
            raise way

    def within_try(self, call, tree, inner):
        try:
            yield from self.rows(call, inner[0])
        except Err as out:
            error = out.value
        else:
            yield from self.rows(call, inner[-2])
            return
        for at, (name, behind, _) in enumerate(tree[2]):
            try:
                kind = self.read(call, name)
                self.need(form(kind) == "kind", "BadKind")
            except Err:
                self.hall.loose(error)
                raise
            if kind in error.parts[0].own.order:
                break
        else:
            raise Err(error)
        call.holds.append(error)
        call.errors.append(error)
        if behind is not None:
            self.put(call, behind, error)
        way = None
        try:
            yield from self.rows(call, inner[1 + at])
        except Out as out:
            way = out
        call.errors.pop()
        call.holds.pop()
        self.hall.loose(error)
        if way:
            raise way

    # The whole.

    def words(self, error):
        return error.parts[0].own.title, show(error.parts.get("words", ""))

    def whole(self, tree):
        call = Running(Own(names=[], around=None), None)
        self.calls.append(call)
        try:
            end = ("ended",)
            try:
                for _ in self.rows(call, numbered(tree)[0]):
                    raise AssertionError("no loop")
            except Err as way:
                end = ("error", *self.words(way.value), [])
                cause = way.value.parts.get("cause")
                while self.is_error(cause) and len(end[3]) < 10:
                    end[3].append(self.words(cause))
                    cause = cause.parts.get("cause")
                self.hall.loose(way.value)
            while self.names.parts:
                self.hall.take(self.names, next(iter(self.names.parts)))
            swept(self.hall, Held(self.kinds.values()))
        except Stop:
            end = ("going",)
        return self.said, end, self.steps, [self.made[each] for each in self.hall.gone() if each in self.made]


NOTHING = object()


def plain(value):
    return type(value)


def form(value):
    return value.form if isinstance(value, Thing) else None


def show(value):
    if not isinstance(value, Thing):
        return {True: "yes", False: "no", None: "none"}[value] if plain(value) not in (int, str) else str(value)
    if value.form in ("list", "table"):
        return "%s %d" % (value.form, len(value.parts))
    of = {"being": value.parts.get(0), "tied": value.parts.get(1)}.get(value.form, value)
    return value.form + " " + of.own.title


def merge(orders, elders):
    """The merged order behind a kind, None where there is none."""
    if len(set(elders)) < len(elders):
        return None
    lists = [list(each) for each in [*orders, elders]]
    told = []
    while any(lists):
        for each in lists:
            if each and not any(each[0] in other[1:] for other in lists):
                break
        else:
            return None
        told.append(each[0])
        lists = [[thing for thing in other if thing is not told[-1]] for other in lists]
    return told


def told(tree, given, most):
    """What walked and ran should tell."""
    return Telling(given, most).whole(tree)
