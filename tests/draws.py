"""Programs by draws, of all forms of statements and expressions, that mostly do something before an error ends them."""

import random

from snakehall.errors import BadTree
from snakehall.naming import looked

VARIABLES = "a b c d".split()
DEEDS = "f g h".split()
LOOPS = "l m l m n".split()
KINDS = "K L M".split()
FIELDS = "x y near words end begin".split()
ERRORS = "Error NoName NoField NoItem NoMore BadCall BadKind TooDeep".split()
SIGNS = "+ - * < ==".split()
SIMPLE = "set set set setfield setitem say say do do drop dropfield dropitem pass sweep raise".split()
BLOCKS = "if if while for for try try try try deed kind".split()


def name(title):
    return ("name", title)


def call(front, *given):
    return ("call", front, tuple(given))


class Drawer:
    """Draws one program; deeds are the names of parameters of the deeds around, the innermost last."""

    def __init__(self, seed, most_depth=4):
        self.chance = random.Random(seed)
        self.most_depth = most_depth
        self.left = 90

    def one_of(self, some):
        return self.chance.choice(some)

    def maybe(self, part):
        return self.chance.random() < part

    # Expressions.

    def expr(self, place, depth=2):
        chance = self.chance.random()
        if depth == 0 or chance < 0.3:
            return self.leaf(place)
        inner = depth - 1
        if chance < 0.5:
            return self.a_call(place, inner)
        if chance < 0.58:
            return ("list", tuple(self.expr(place, inner) for _ in range(self.one_of((0, 1, 2)))))
        if chance < 0.63:
            return ("table", tuple((self.key(place, inner), self.expr(place, inner)) for _ in range(self.one_of((0, 1, 2)))))
        if chance < 0.72:
            return (self.one_of(SIGNS), self.expr(place, inner), self.expr(place, inner))
        if chance < 0.78:
            return (self.one_of(("and", "or")), self.expr(place, inner), self.expr(place, inner))
        if chance < 0.81:
            return ("not", self.expr(place, inner))
        if chance < 0.83:
            return ("size", self.expr(place, inner))
        if chance < 0.88:
            return ("pull", self.one_of((name(self.one_of(VARIABLES)), self.a_loop(place, inner))))
        if chance < 0.94:
            return ("field", self.one_of((name(self.one_of(VARIABLES + KINDS)), self.expr(place, inner))), self.one_of(FIELDS))
        if chance < 0.97 and place.has_super:
            return ("super", self.one_of("begin end f x".split()), self.given(place, inner))
        return ("item", name(self.one_of(VARIABLES)), self.key(place, inner))

    def leaf(self, place):
        chance = self.chance.random()
        if chance < 0.6:
            return name(self.one_of(VARIABLES + list(place.names) * 2))
        if chance < 0.66:
            return name(self.one_of(DEEDS + LOOPS + KINDS + ERRORS))
        if chance < 0.8:
            return ("number", self.one_of((0, 1, 2, 3, 400, 999999999)))
        if chance < 0.9:
            return ("text", self.one_of(("", "t")))
        return (self.one_of(("yes", "no", "none", "ask")),)

    def key(self, place, depth):
        if self.maybe(0.85):
            return self.one_of((("number", 0), ("number", 1), ("text", "k"), ("text", "j")))
        return self.expr(place, depth)

    def given(self, place, depth):
        return tuple(self.expr(place, depth) for _ in range(self.one_of((0, 0, 0, 1, 2))))

    def a_loop(self, place, depth):
        return call(name(self.one_of(LOOPS)), *[self.expr(place, depth)] * self.maybe(0.7))

    def a_call(self, place, depth):
        chance = self.chance.random()
        if chance < 0.3:
            return call(name(self.one_of(DEEDS)), *self.given(place, depth))
        if chance < 0.65:
            return call(name(self.one_of(KINDS)), *self.given(place, depth))
        if chance < 0.75:
            return call(name(self.one_of(ERRORS)), *self.given(place, depth))
        if chance < 0.85:
            return self.a_loop(place, depth)
        if chance < 0.9:
            return call(name(self.one_of(VARIABLES)), *self.given(place, depth))
        front = self.one_of((name(self.one_of(VARIABLES + KINDS)), self.expr(place, depth)))
        return call(("field", front, self.one_of("f x end begin".split())), *self.given(place, depth))

    # Statements.

    def rows(self, place, depth, most=3):
        return tuple(self.statement(place, depth) for _ in range(self.one_of(range(1, most + 1))))

    def statement(self, place, depth):
        self.left -= 1
        if depth and self.left > 0 and self.maybe(0.4):
            return self.block(place, depth - 1)
        if place.in_deed and self.maybe(0.12):
            return ("give", self.expr(place))
        if place.hands and self.maybe(0.3):
            return ("hand", self.expr(place))
        if place.in_loop and self.maybe(0.15):
            return (self.one_of(("break", "next")),)
        if place.in_except and self.maybe(0.15):
            return ("again",)
        if place.outer and self.maybe(0.1):
            return ("outer", self.one_of(place.outer))
        return self.simple(place)

    def target(self, place):
        return self.one_of(VARIABLES + list(place.names))

    def simple(self, place):
        form = self.one_of(SIMPLE)
        front = name(self.one_of(VARIABLES + list(place.names)))
        if form == "set":
            return (form, self.target(place), self.expr(place, 3))
        if form == "setfield":
            return (form, self.one_of((front, front, name(self.one_of(KINDS)))), self.one_of(FIELDS), self.expr(place))
        if form == "setitem":
            return (form, front, self.key(place, 1), self.expr(place))
        if form in ("say", "do"):
            return (form, self.expr(place, 3))
        if form == "drop":
            return (form, self.target(place))
        if form == "dropfield":
            return (form, front, self.one_of(FIELDS))
        if form == "dropitem":
            return (form, front, self.key(place, 1))
        if form == "raise":
            return (form, self.error(place), self.one_of((None, self.error(place), ("none",))))
        return (form,)

    def error(self, place):
        if self.maybe(0.1):
            return self.expr(place)
        return call(name(self.one_of(ERRORS + ["L"])), *[self.expr(place, 1)] * self.maybe(0.5))

    def block(self, place, depth):
        form = self.one_of(BLOCKS)
        if form == "if":
            return (form, self.expr(place), self.rows(place, depth), self.rows(place, depth) if self.maybe(0.5) else ())
        if form == "while":
            return (form, self.expr(place), self.rows(place.within(in_loop=True), depth))
        if form == "for":
            over = self.one_of((self.a_loop(place, 1), self.a_loop(place, 1), ("list", self.given(place, 1)), self.expr(place)))
            return (form, self.target(place), over, self.rows(place.within(in_loop=True), depth))
        if form == "try":
            return self.a_try(place, depth)
        if form == "deed":
            title = self.one_of(DEEDS + LOOPS)
            return self.deed(place, title, tuple(self.chance.sample("pqr", self.one_of((0, 0, 1, 2)))), depth, False)
        return self.kind(place, self.one_of(KINDS), depth)

    def a_try(self, place, depth):
        excepts = tuple(
            (self.one_of(ERRORS[:1] * 4 + ERRORS + KINDS + VARIABLES[:1]), self.one_of((None, self.target(place))),
             self.rows(place.within(in_except=True), depth))
            for _ in range(self.one_of((0, 1, 1, 2)))
        )
        otherwise = self.rows(place, depth, 2) if excepts and self.maybe(0.3) else ()
        last = self.rows(place, depth, 2) if not excepts or self.maybe(0.5) else ()
        return ("try", self.rows(place, depth), excepts, otherwise, last)

    def deed(self, place, title, given, depth, in_kind):
        inner = Place(
            names=given, in_deed=True, hands=title in LOOPS or self.maybe(0.05), has_super=in_kind and bool(given),
            outer=tuple(VARIABLES) if place.in_deed else (),
        )
        # Names that are set somewhere in a deed are its own, and not there ahead of that.
        firsts = tuple(("set", each, self.one_of((("number", 1), call(name("K")), ("list", ()))))
                       for each in VARIABLES if self.maybe(0.5))
        return ("deed", title, given, firsts + self.rows(inner, depth, 4))

    def kind(self, place, title, depth):
        rows = []
        for part in self.chance.sample(("begin", "end", "end", "f", "x", "y"), self.one_of((1, 2, 3))):
            if part in ("begin", "end", "f"):
                more = self.one_of(((), (), ("p",))) if part != "end" else self.one_of(((), (), (), ("p",)))
                rows.append(self.deed(place, part, ("self", *more), depth, True))
            elif part == "x":
                rows.append(("set", part, self.expr(place)))
            else:
                rows.append(("pass",))
        elders = self.one_of(((), (), ("K",), ("Error",), ("K", "L"), ("L", "Error"), ("a",)))
        return ("kind", title, elders, tuple(rows))

    # The whole.

    def prelude(self):
        """Names that most programs find set."""
        place = Place()
        says = ("say", ("+", ("text", "end "), ("field", name("self"), "x")))
        ends = self.one_of(((says,), (says,), (("pass",),), self.rows(Place(names=("self",), in_deed=True), 1)))
        rows = [("set", each, ("number", 0)) for each in VARIABLES] + [
            ("kind", "K", (), (
                ("deed", "end", ("self",), ends), ("set", "x", ("text", "k")),
                *[("deed", "f", ("self",), (("give", self.expr(Place(names=("self",), in_deed=True))),))] * self.maybe(0.5),
            )),
            ("kind", "L", self.one_of((("K",), ("Error",), ("K", "Error"), ())), self.kind(place, "L", 1)[3]),
            ("kind", "M", ("L",), self.kind(place, "M", 1)[3]),
            self.deed(place, "f", self.one_of(((), ("p",))), 2, False),
            self.deed(place, "g", self.one_of(((), ("p", "q"))), 2, False),
            ("deed", "h", ("p",), (("give", call(name(self.one_of(("h", "f", "g"))), name("p"))),)),
            self.closure(),
            ("deed", "l", ("p",), self.loop_rows()),
            self.deed(place, "m", ("p",), 3, False),
        ]
        firsts = (
            call(name("K")), call(name("K")), call(name("L")), call(name("M")), ("list", (call(name("K")),)),
            ("table", ((("text", "k"), call(name("K"))),)), call(name("l"), call(name("K"))), ("number", 7),
            call(name("n"), ("number", 3)), call(call(name("n"), ("number", 3))),
        )
        rows += [("set", each, self.one_of(firsts)) for each in VARIABLES]
        return rows

    def closure(self):
        """A deed whose answer sets a name of it, or hands it out."""
        place = Place(names=("p", "a"), in_deed=True, outer=("a",))
        last = self.one_of(("give", "hand"))
        inner = ("deed", "f", (), (
            ("outer", "a"), *self.rows(place, 1, 2), ("set", "a", self.one_of((("list", (name("a"), name("p"))), ("+", name("a"), ("number", 1)))),
            ), (last, name("a")),
        ))
        rows = (("set", "a", self.one_of((name("p"), ("number", 1)))), inner, *self.rows(place, 1, 1))
        return ("deed", "n", ("p",), (*rows, ("give", self.one_of((name("f"), call(name("f"))))),))

    def loop_rows(self):
        """A loop that hands out at least once, in a try for the most part."""
        place = Place(names=("p",), in_deed=True, hands=True)
        hand = ("hand", self.one_of((name("p"), call(name("K")), self.expr(place))))
        last = (("say", ("text", "last")), *self.rows(place, 1, 2)) if self.maybe(0.7) else ()
        inner = ("try", (hand, *self.rows(place, 2, 2)), (("Error", None, (hand, ("pass",))),) * (not last), (), last)
        around = self.one_of((
            ("while", ("yes",), (inner,)), ("for", "q", ("list", (call(name("K")), ("number", 2))), (inner, hand)), inner,
            ("try", (inner,), (), (), (("say", ("text", "out")),)),
        ))
        return (around, *self.rows(place, 1, 2))

    def program(self):
        """Rows of a program, some of them behind a try, so that an error does not end it at once."""
        rows = self.prelude()
        self.left = 60
        for _ in range(self.one_of((2, 4, 8))):
            some = self.rows(Place(), self.most_depth)
            if self.maybe(0.9):
                some = (("try", some, (("Error", self.one_of((None, "d")), (("say", ("text", "caught")),)),), (), ()),)
            rows.extend(some)
        # Each error of the prelude would end the program ahead of all else.
        return tuple(
            ("try", (row,), (("Error", None, (("pass",),)),), (), ())
            if row[0] in ("set", "kind") and self.maybe(0.9) else row for row in rows
        )


class Place:
    """What may stand where a statement is drawn."""

    def __init__(self, names=(), in_deed=False, hands=False, has_super=False, outer=(), in_loop=False, in_except=False):
        self.names, self.in_deed, self.hands, self.has_super = names, in_deed, hands, has_super
        self.outer, self.in_loop, self.in_except = outer, in_loop, in_except

    def within(self, **more):
        return Place(**{**self.__dict__, **more})


def drawn(seed, most_depth=4):
    """A program that is looked over, always the same one for a seed."""
    tries = 0
    while True:
        tree = Drawer(seed * 1000 + tries, most_depth).program()
        try:
            looked(tree)
            return tree
        except BadTree:
            tries += 1
