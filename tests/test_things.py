"""Promises [13] and [14]: the forms of things, what they hold and in which order, and the first kinds."""

import unittest

from programs import Programs
from snakehall.firsts import BELOW_ERROR, first_kinds
from snakehall.hall import Hall
from snakehall.strides import program_from
from snakehall.trees import tree_of
from snakehall.walking import Walker

FIRSTS = "Error NoName NoField NoItem NoMore NoOrder NoHand BadCall BadKind TooBig TooDeep".split()
# A being that says its own name when it is gone, so that the order of going is told.
NAMED = """
kind B():
  deed begin(self, x):
    self.x = x
  deed end(self):
    say self.x
"""


def names_after(text):
    """The program's names where a program has come to its last row, which hands nothing back."""

    class Stopping(Walker):
        def close(self):
            self.last_names = dict(self.program.parts)
            return ("ended",)

    walker = Stopping([], 3000)
    walker.whole(program_from(tree_of(text)))
    return walker.last_names


class Forms(unittest.TestCase):
    def test_lists_have_the_parts_0_1_and_so_on(self):
        names = names_after('a = [7, "x", none]\na[3] = yes')
        self.assertEqual(names["a"].form, "list")
        self.assertEqual(list(names["a"].parts.items()), [(0, 7), (1, "x"), (2, None), (3, True)])

    def test_tables_have_their_keys_in_the_order_of_putting(self):
        names = names_after('a = {"k": 1, 2: "x", "k": 3}\na[1] = 4\na[2] = 5')
        self.assertEqual(names["a"].form, "table")
        self.assertEqual(list(names["a"].parts.items()), [("k", 3), (2, 5), (1, 4)])

    def test_a_deed_of_the_program_holds_nothing(self):
        deed = names_after("deed f():\n  pass")["f"]
        self.assertEqual((deed.form, deed.parts), ("deed", {}))

    def test_a_deed_in_a_deed_holds_the_scope_around(self):
        names = names_after("deed f(p):\n  deed g():\n    pass\n  give g\nd = f(5)")
        scope, = names["d"].parts.values()
        self.assertEqual(scope.form, "scope")
        self.assertEqual(scope.parts, {"p": 5, "g": names["d"]})

    def test_a_scope_holds_the_scope_around_ahead_of_its_names(self):
        text = "deed f(p):\n  deed g(q):\n    deed h():\n      pass\n    give h\n  give g(6)\nd = f(5)"
        inner, = names_after(text)["d"].parts.values()
        outer = list(inner.parts.values())[0]
        self.assertEqual((inner.form, outer.form), ("scope", "scope"))
        self.assertEqual([value for value in outer.parts.values() if not hasattr(value, "form")], [5])
        self.assertEqual(list(inner.parts.values())[1], 6)

    def test_a_kind_holds_its_elders_in_order_ahead_of_its_parts(self):
        text = "kind A():\n  pass\nkind B():\n  pass\nkind C(B, A):\n  x = 1\n  deed f():\n    pass\n  x = 2"
        names = names_after(text)
        parts = list(names["C"].parts.values())
        self.assertEqual(parts[:2], [names["B"], names["A"]])
        self.assertEqual(parts[2], 2)
        self.assertEqual([part.form for part in parts[:2] + parts[3:]], ["kind", "kind", "deed"])
        self.assertEqual(len(parts), 4)

    def test_a_deed_does_not_hold_its_kind(self):
        names = names_after("kind A():\n  deed f(self):\n    pass")
        deed = names["A"].parts["f"]
        self.assertEqual(deed.parts, {})
        self.assertEqual(names["A"].count, 1)

    def test_a_being_holds_its_kind_ahead_of_its_fields(self):
        names = names_after("kind A():\n  pass\na = A()\na.x = 1\na.k = 2")
        self.assertEqual(list(names["a"].parts.values()), [names["A"], 1, 2])
        self.assertEqual(names["A"].count, 2)

    def test_a_tied_thing_holds_its_being_and_its_deed(self):
        names = names_after("kind A():\n  deed f(self):\n    pass\na = A()\nt = a.f")
        self.assertEqual(names["t"].form, "tied")
        self.assertEqual(list(names["t"].parts.values()), [names["a"], names["A"].parts["f"]])

    def test_a_loop_holds_its_scope_and_not_its_deed(self):
        names = names_after("deed l(p):\n  hand p\na = l(5)")
        self.assertEqual(names["a"].form, "loop")
        self.assertEqual([value.form for value in names["a"].own.held() if value is not None], ["scope"])
        self.assertEqual(names["l"].count, 1)


class Order(Programs):
    def test_the_items_of_a_list_and_the_keys_of_a_table_are_loosed_in_order(self):
        self.says(NAMED + 'a = [B("a"), B("b")]\na[2] = B("c")\na[0] = B("d")\nlet go a', "a", "d", "b", "c")
        self.says(NAMED + 'a = {2: B("a"), 1: B("b")}\na[0] = B("c")\na[2] = B("d")\nlet go a', "a", "d", "b", "c")

    def test_the_fields_of_a_being_are_loosed_behind_its_end(self):
        self.says(NAMED + 'a = B("a")\na.y = B("b")\na.z = B("c")\nlet go a.y\na.y = B("d")\nlet go a',
                  "b", "a", "c", "d")

    def test_a_being_looses_its_kind_first(self):
        self.says(NAMED + """
kind A():
  x = B("kind")
a = A()
let go A
a.y = [B("field")]
let go a
""", "kind", "field")

    def test_a_kind_looses_its_elders_first(self):
        self.says(NAMED + """
kind A():
  x = B("elder")
kind C(A):
  x = [B("part")]
let go A
let go C
""", "elder", "part")

    def test_a_tied_thing_looses_its_being_first(self):
        self.says(NAMED + """
kind A():
  deed f(self):
    pass
a = A()
a.x = B("field")
t = a.f
let go a
say "now"
let go t
""", "now", "field")

    def test_a_scope_looses_the_scope_around_first(self):
        self.says(NAMED + """
deed f(p):
  deed g(q):
    deed h():
      give 1
    give h
  give g
deed once():
  h = f(B("outer"))(B("inner"))
  give h
h = once()
sweep
say "now"
let go h
say "then"
sweep
""", "now", "then", "outer", "inner")

    def test_a_scope_looses_its_parameters_in_order_then_what_was_set(self):
        self.says(NAMED + """
deed f(p, q):
  a = B("a")
  p = none
  p = B("p")
f(B("one"), B("two"))
""", "p", "a", "one", "two")


class Shown(Programs):
    def test_each_form(self):
        ahead = """
            kind K():
              deed f(self):
                pass
            deed g():
              pass
            deed l():
              hand 1
            b = K()
        """
        for expr, text in (
            ("12", "12"), ("(0 - 12)", "-12"), ('"a b"', "a b"), ('""', ""), ("yes", "yes"), ("no", "no"), ("none", "none"),
            ("[]", "list 0"), ("[1, [2]]", "list 2"), ("{}", "table 0"), ('{1: 2, "1": 3}', "table 2"), ("g", "deed g"),
            ("K", "kind K"), ("b", "being K"), ("b.f", "tied f"), ("K.f", "deed f"), ("l()", "loop l"),
            ("Error", "kind Error"), ("NoName()", "being NoName"),
        ):
            self.shows(expr, text, ahead)

    def test_the_name_is_the_one_of_the_statement(self):
        self.says("""
            kind K():
              deed f(self):
                hand 1
            L = K
            let go K
            say L
            say L()
            g = L.f
            say g
            say L().f()
        """, "kind K", "being K", "deed f", "loop f")


class Firsts(Programs):
    def test_they_are_there(self):
        for title in FIRSTS:
            self.shows(title, "kind " + title)

    def test_their_titles(self):
        self.assertEqual(["Error", *BELOW_ERROR], FIRSTS)

    def test_error_is_the_elder_of_all_others(self):
        firsts = first_kinds(Hall(None))
        self.assertEqual(list(firsts), FIRSTS)
        error = firsts["Error"]
        self.assertEqual((error.parts, error.own.order), ({}, [error]))
        for title in FIRSTS[1:]:
            self.assertEqual(list(firsts[title].parts.values()), [error])
            self.assertEqual(firsts[title].own.order, [firsts[title], error])
        for title in FIRSTS:
            self.says(f"try:\n  raise {title}()\nexcept Error as e:\n  say e", "being " + title)

    def test_they_are_no_elders_of_one_another_but_error(self):
        for title in FIRSTS[1:]:
            self.fails(f"try:\n  raise {title}()\nexcept {'NoName' if title != 'NoName' else 'TooBig'}:\n  pass", title)

    def test_nobody_sets_or_takes_their_parts(self):
        for title in FIRSTS:
            self.fails(f"{title}.x = 1", "NoField")
            self.fails(f"let go {title}.x", "NoField")
            self.fails(f"{title}.begin = 1", "NoField")

    def test_they_are_not_counted_and_never_gone(self):
        result = self.says("Error\nsweep\na = Error\nlet go a\nsweep\nNoName()")
        self.assertEqual(set(result.things), {0})
        self.assertEqual(result.ends, [("NoName", 1)])

    def test_a_sweep_leaves_them(self):
        self.says('sweep\nsweep\nsay Error\nsay TooDeep("")', "kind Error", "being TooDeep")

    def test_an_error_is_a_being_with_error_in_its_order(self):
        self.says("""
            kind A(NoName):
              pass
            kind B(A):
              pass
            try:
              raise B("w")
            except NoName as e:
              say e
              say e.words
        """, "being B", "w")
        self.fails("kind A():\n  pass\nraise A()", "BadCall")
        self.fails("raise Error", "BadCall")

    def test_an_error_that_comes_by_itself_has_no_words(self):
        self.says("""
            try:
              nothere
            except NoName as e:
              say e.words
              say (e.words == "")
              e.words = 5
              say e.words
        """, "", "yes", "5")
        for row, title in (("nothere", "NoName"), ("none.x", "NoField"), ("[][0]", "NoItem"), ("none()", "BadCall"),
                           ("(1 + none)", "BadKind")):
            self.says(f"try:\n  {row}\nexcept {title} as e:\n  say (e.words == \"\")", "yes")


if __name__ == "__main__":
    unittest.main()
