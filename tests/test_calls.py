"""Promise [17]: calls."""

import unittest

from programs import Programs
from test_reckoning import AHEAD, SORTS

DEEP = """
deed down(n):
  if (n == 0):
    give go1()
  give down((n - 1))
"""


class Deeds(Programs):
    def test_answers(self):
        self.says("deed f():\n  pass\nsay f()", "none")
        self.says("deed f():\n  give 5\n  say 6\nsay f()", "5")
        self.says("deed f(a, b):\n  give (a - b)\nsay f(5, 3)", "2")
        self.says("deed f(a):\n  while yes:\n    for x in [1]:\n      if a:\n        give a\nsay f(4)", "4")

    def test_as_many_arguments_as_parameters(self):
        for many in range(9):
            names = ", ".join("abcdefgh"[:many])
            for given in range(9):
                text = f"deed f({names}):\n  say 1\nf({', '.join('0' * given)})"
                if given == many:
                    self.says(text, "1")
                else:
                    self.fails(text, "BadCall", said=())

    def test_other_sorts(self):
        for sort, value in SORTS.items():
            if sort not in ("kind", "deed", "tied"):
                self.fails(AHEAD + f"{value}()", "BadCall")

    def test_arguments_are_reckoned_ahead_of_the_look(self):
        self.fails("none(nothere)", "NoName")
        self.fails("nothere(none())", "NoName")
        self.fails("deed f():\n  pass\nf(nothere)", "NoName")

    def test_a_new_scope_with_the_parameters_in_order(self):
        result = self.run_text("deed f(a, b):\n  say a\n  say b\nf(1, 2)")
        self.assertEqual(result.steps, [(0, 1, 0), (3, 1, 1), (1, 2, 2), (2, 2, 2)])

    def test_tied_things(self):
        ahead = "kind K():\n  deed f(self, a):\n    say self\n    say a\nk = K()\n"
        self.says(ahead + "k.f(1)\nt = k.f\nlet go k\nt(2)", "being K", "1", "being K", "2")
        self.fails(ahead + "k.f()", "BadCall")
        self.fails(ahead + "k.f(1, 2)", "BadCall")
        self.fails("kind K():\n  deed f():\n    pass\nK().f()", "BadCall")


class Kinds(Programs):
    def test_without_begin(self):
        self.says("kind K():\n  pass\nsay K()\nsay (K() == K())", "being K", "no")
        result = self.fails("kind K():\n  pass\nK(1)", "BadCall")
        # The being is made ahead of the look.
        self.assertEqual(result.ends, [("K", 1), ("BadCall", 2)])

    def test_begin(self):
        self.says("""
            kind K():
              deed begin(self, a, b):
                self.x = [a, b]
                give "nobody takes this"
            k = K(1, 2)
            say k
            say k.x[0]
            say k.x[1]
        """, "being K", "1", "2")
        for given in ("", "1, 2"):
            result = self.fails(f"kind K():\n  deed begin(self, a):\n    say a\nK({given})", "BadCall", said=())
            self.assertEqual(result.ends, [("K", 1), ("BadCall", 2)])

    def test_begin_along_the_order(self):
        self.says("""
            kind A():
              deed begin(self, a):
                say ["A", a][0]
            kind B(A):
              pass
            kind C(B):
              deed begin(self):
                say "C"
            A(1)
            B(1)
            C()
            let go C.begin
            C(1)
        """, "A", "A", "C", "A")

    def test_begin_that_is_no_deed(self):
        for value in ("5", "none", "Error", "[]"):
            result = self.fails(f"kind K():\n  begin = {value}\nK()", "BadCall")
            self.assertEqual(result.ends[0], ("K", 1))

    def test_an_own_field_is_no_begin(self):
        self.says("kind K():\n  pass\nk = K()\nk.begin = 5\nK()\nsay 1", "1")

    def test_the_answer_of_begin_is_loosed_when_its_call_is_there_no_more(self):
        result = self.says("""
            kind A():
              deed end(self):
                say "end"
            kind K():
              deed begin(self):
                give A()
            say K()
        """, "end", "being K")
        # Two kinds, two deeds, two beings and a scope, which is the end's.
        self.assertEqual(result.at(2), [(2, 7)])
        self.assertEqual(result.ends, [("A", 2), ("K", 1)])

    def test_begin_that_hands_out_makes_a_loop_that_is_loosed(self):
        result = self.says("""
            kind K():
              deed begin(self):
                try:
                  hand 1
                finally:
                  say "never"
            k = K()
            say k
        """, "being K")
        self.assertEqual(result.at(6), [(1, 3)])

    def test_words_of_errors(self):
        self.says("""
            kind E(Error):
              pass
            kind F(NoName, E):
              pass
            say (Error().words == "")
            say Error("w").words
            say NoName(5).words
            say E([1]).words
            say F(none).words
        """, "yes", "w", "5", "list 1", "none")
        for title in ("Error", "TooDeep"):
            result = self.fails(f"{title}(1, 2)", "BadCall")
            self.assertEqual(result.ends, [(title, 1), ("BadCall", 2)])

    def test_begin_of_an_error_puts_no_words(self):
        self.says("""
            kind E(Error):
              deed begin(self, a, b):
                self.a = b
            e = E(1, 2)
            say e.a
            try:
              say e.words
            except NoField:
              say "no words"
        """, "2", "no words")
        self.fails("kind E(Error):\n  deed begin(self):\n    pass\nraise E()", "E", "")

    def test_an_error_in_begin_flies_to_the_asker(self):
        result = self.says("""
            kind K():
              deed begin(self):
                raise Error("w")
              deed end(self):
                say "end"
            try:
              say K()
            except Error as e:
              say e.words
        """, "end", "w")
        self.assertEqual(result.ends[0], ("K", 1))


class Depth(Programs):
    def deep(self, row, calls):
        """A row that is done where so many calls are there."""
        return f"deed go1():\n  give {row}\n" + DEEP + f"say down({calls - 3})"

    def test_twelve_calls_and_the_thirteenth(self):
        count = """
            deed f(n):
              if (0 < n):
                f((n - 1))
            f({0})
        """
        result = self.says(count.replace("{0}", "10"))
        self.assertEqual(max(result.depths), 12)
        result = self.fails(count.replace("{0}", "11"), "TooDeep")
        self.assertEqual(max(result.depths), 12)
        self.assertEqual(result.depths.count(12), 2)

    def test_where_twelve_calls_are_there(self):
        for row, title in (("go2()", "TooDeep"), ("go2(1)", "BadCall"), ("none()", "BadCall"), ("K().f()", "TooDeep"),
                           ("K().f(1)", "BadCall"), ("B()", "TooDeep"), ("B(1)", "BadCall"), ("pull(l())", "TooDeep"),
                           ("pull(1)", "BadKind")):
            text = ("deed go2():\n  pass\nkind K():\n  deed f(self):\n    pass\nkind B():\n  deed begin(self):\n    pass\n"
                    "deed l():\n  hand 1\n") + self.deep(row, 12)
            self.fails(text, title)
        for row, said in (("K()", "being K"), ("Error(1).words", "1"), ("l()", "loop l"), ("[1][0]", "1")):
            text = "kind K():\n  pass\ndeed l():\n  hand 1\n" + self.deep(row, 12)
            self.says(text, said)
        for row, said in (("go2()", "none"), ("B()", "being B"), ("pull(l())", "1")):
            text = ("deed go2():\n  pass\nkind B():\n  deed begin(self):\n    pass\n"
                    "deed l():\n  hand 1\n") + self.deep(row, 11)
            self.says(text, said)

    def test_too_deep_of_a_kind_comes_when_the_being_is_made(self):
        text = "kind B():\n  deed begin(self):\n    pass\n" + self.deep("B()", 12)
        result = self.fails(text, "TooDeep")
        self.assertEqual(result.ends, [("B", 1), ("TooDeep", 2)])

    def test_begins_and_ends_and_loops_are_calls(self):
        result = self.says("""
            kind K():
              deed begin(self):
                say "begin"
              deed end(self):
                say "end"
            deed l():
              say "loop"
              hand K()
            for x in l():
              pass
        """, "loop", "begin", "end")
        # K, three deeds, a scope and the loop; then a being and a scope, too.
        self.assertEqual((result.at(6), result.at(2)), ([(2, 6)], [(3, 8)]))
        self.assertEqual(result.at(4)[0][0], 2)

    def test_a_try_takes_too_deep(self):
        self.says("""
            deed f(n):
              try:
                give f((n + 1))
              except TooDeep:
                give n
            say f(2)
        """, "12")


class Super(Programs):
    AHEAD = """
kind A():
  deed f(self, p):
    give ("A" + p)
  deed begin(self):
    say "A.begin"
  x = 5
kind B(A):
  deed f(self, p):
    give ("B" + super.f(p))
  deed begin(self):
    say "B.begin"
    super.begin()
kind C(A):
  deed f(self, p):
    give ("C" + super.f(p))
  deed begin(self):
    say "C.begin"
    super.begin()
kind D(B, C):
  deed f(self, p):
    give ("D" + super.f(p))
"""

    def test_the_order_behind_that_kind(self):
        # The order of the being's kind counts: behind B comes C, of a D.
        self.says(self.AHEAD + "say D().f(\"!\")", "B.begin", "C.begin", "A.begin", "DBCA!")
        self.says(self.AHEAD + "say B().f(\"!\")", "B.begin", "A.begin", "BA!")

    def test_no_field(self):
        self.fails("kind K():\n  deed f(self):\n    super.f()\nK().f()", "NoField")
        self.fails(self.AHEAD + "kind E(A):\n  deed g(self):\n    super.g()\nE().g()", "NoField")
        # What is no deed, and what only the kind itself has.
        self.fails(self.AHEAD + "kind E(A):\n  deed g(self):\n    super.x()\nE().g()", "NoField")
        self.fails(self.AHEAD + "kind E(A):\n  y = A.f\n  deed g(self):\n    super.y(1)\nE().g()", "NoField")

    def test_a_part_that_is_no_deed_is_not_passed_over(self):
        self.fails(self.AHEAD + "kind E(A):\n  f = 1\nkind F(E):\n  deed g(self):\n    super.f(1)\nF().g()", "NoField")

    def test_bad_call(self):
        for given in ("none", "1", "A()", "[]", "A", "E"):
            self.fails(self.AHEAD + f"kind E(A):\n  deed g(self):\n    super.f(1)\nE.g({given})", "BadCall")
        self.fails(self.AHEAD + "kind E(A):\n  deed g(self):\n    super.f()\nE().g()", "BadCall")
        self.fails(self.AHEAD + "kind E(A):\n  deed g(self):\n    super.f(1, 2)\nE().g()", "BadCall")

    def test_the_first_parameter_is_read_like_a_name(self):
        self.fails(self.AHEAD + "kind E(A):\n  deed g(self):\n    let go self\n    super.f(1)\nE().g()", "NoName")
        self.fails(self.AHEAD + "kind E(A):\n  deed g(self):\n    self = A()\n    super.f(1)\nE().g()", "BadCall")
        self.says(self.AHEAD + "kind E(A):\n  deed g(a, b):\n    a = b\n    give super.f(\"x\")\nsay E.g(1, E())",
                  "A.begin", "Ax")

    def test_the_kind_is_the_one_in_whose_rows_the_deed_stands(self):
        self.says(self.AHEAD + """
kind E(A):
  deed begin(self):
    pass
kind F(E):
  pass
F.f = B.f
try:
  F().f("!")
except BadCall:
  say "no B"
kind G(B):
  deed begin(self):
    pass
  f = B.f
say G().f("!")
""", "no B", "BA!")

    def test_a_set_in_the_rows_of_a_kind_within(self):
        self.says(self.AHEAD + """
kind E(A):
  deed begin(self):
    pass
  deed g(self):
    kind F():
      x = super.f("?")
    give F.x
say E().g()
""", "A?")

    def test_being_and_deed_are_held_ahead_of_the_arguments(self):
        self.says("""
            kind A():
              deed f(self, p):
                say self
            kind B(A):
              deed g(self):
                super.f(h(self))
            deed h(being):
              let go A.f
              give 1
            B().g()
            try:
              B().g()
            except NoField:
              say "no f"
        """, "being B", "no f")
        # The look comes ahead of the arguments, too.
        self.fails("kind K():\n  deed f(self):\n    super.f(nothere)\nK().f()", "NoField")
        self.fails("kind K():\n  deed f(self):\n    super.f(nothere)\nK.f(1)", "BadCall")

    def test_super_of_a_deed_that_hands_out(self):
        self.says("""
            kind A():
              deed each(self):
                hand 1
                hand 2
            kind B(A):
              deed each(self):
                for x in super.each():
                  hand (x + 10)
            for x in B().each():
              say x
        """, "11", "12")

    def test_things_of_a_super(self):
        result = self.run_text("""
            kind A():
              deed f(self):
                pass
            kind B(A):
              deed f(self):
                super.f()
            B().f()
        """)
        # A, f, B, f; the being, the tied thing and a scope; then one scope more.
        self.assertEqual(result.at(5), [(2, 7)])
        self.assertEqual(result.at(2), [(3, 8)])

    def test_a_kind_that_is_gone(self):
        self.fails("""
            kind K():
              deed f(self):
                super.f()
            f = K.f
            let go K
            kind K():
              pass
            f(K())
        """, "BadCall")


class NotHeld(Programs):
    def test_the_deed_of_a_begin_or_an_end_is_not_held_by_its_call(self):
        result = self.says("""
            kind K():
              deed begin(self):
                let go K.begin
                say "begin"
              deed end(self):
                let go K.end
                say "end"
            K()
        """, "begin", "end")
        # K, two deeds, the being and a scope, then one deed less; then, without begin, one deed less once more.
        self.assertEqual((result.at(2), result.at(3)), ([(2, 5)], [(2, 4)]))
        self.assertEqual((result.at(5), result.at(6)), ([(2, 4)], [(2, 3)]))

    def test_the_deed_of_another_call_is_held_by_the_basket(self):
        result = self.says("""
            deed f():
              say 1
            deed g():
              let go a.f
              say 2
            kind K():
              pass
            a = K()
            a.f = g
            let go f
            a.f()
            say 3
        """, "2", "3")
        self.assertEqual((result.at(3), result.at(4)), ([(2, 4)], [(2, 4)]))


if __name__ == "__main__":
    unittest.main()
