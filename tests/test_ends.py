"""Promises [21] and [22]: the lasts of beings, and how calls and the program end."""

import unittest

from programs import Programs

AHEAD = """
kind B():
  deed begin(self, x):
    self.x = x
  deed end(self):
    say self.x
"""
DEEP = """
deed down(n, d):
  if (n == 0):
    give d()
  give down((n - 1), d)
"""


class Ends(Programs):
    def test_along_the_order(self):
        self.says("""
            kind A():
              deed end(self):
                say "A"
            kind B(A):
              pass
            kind C(B):
              deed end(me):
                say "C"
            A()
            B()
            C()
            let go C.end
            C()
        """, "A", "A", "C", "A")

    def test_of_one_parameter_alone(self):
        for given in ("", "a, b"):
            self.says(f"kind K():\n  deed end({given}):\n    say 1\nK()\nsay 2", "2")
        self.says("kind K():\n  end = 5\nK()\nsay 2", "2")
        self.says("kind K():\n  end = K2.f\nK()\nsay 2".replace("kind K()", "kind K2():\n  deed f(self):\n    say 1\nkind K()"),
                  "1", "2")

    def test_a_part_that_is_no_end_is_not_passed_over(self):
        self.says("kind A():\n  deed end(self):\n    say 1\nkind B(A):\n  end = none\nkind C(A):\n  deed end():\n    say 1\n"
                  "B()\nC()\nsay 2", "2")

    def test_an_own_field_is_no_end(self):
        self.says("kind A():\n  deed f(self):\n    say 1\na = A()\na.end = A.f\nlet go a\nsay 2", "2")

    def test_its_answer_is_loosed_while_its_call_is_there(self):
        result = self.says(AHEAD + """
kind K():
  deed end(self):
    give B("answer")
K()
say "then"
""", "answer", "then")
        # The end of the answer is the third call: B, K, their deeds, both beings and one scope are there.
        self.assertEqual(result.at(4), [(3, 8)])
        self.assertEqual(result.ends, [("B", 2), ("K", 1)])

    def test_its_error_is_loosed_while_its_call_is_there(self):
        result = self.says("""
            kind E(Error):
              deed end(self):
                say "E"
            kind K():
              deed end(self):
                raise E()
            K()
            say "then"
        """, "E", "then")
        self.assertEqual(result.at(2), [(3, 7)])
        self.assertEqual(result.ends, [("E", 2), ("K", 1)])

    def test_its_error_is_loosed_behind_its_scope(self):
        self.says(AHEAD + """
kind E(Error):
  deed end(self):
    say "E"
kind K():
  deed end(self):
    a = B("scope")
    raise E()
K()
""", "scope", "E")

    def test_nobody_takes_its_error(self):
        self.says("kind K():\n  deed end(self):\n    raise Error()\ntry:\n  K()\n  say 1\nexcept Error:\n  say 2", "1")
        self.says("kind K():\n  deed end(self):\n    nothere\nk = K()\nsay 1", "1")

    def test_a_being_that_its_end_keeps(self):
        result = self.says("""
            kind K():
              deed end(self):
                say "end"
                h[0] = self
            h = [0]
            K()
            say h[0]
            h[0] = none
            say "then"
        """, "end", "being K", "then")
        self.assertEqual(result.ends, [("K", 1)])
        self.assertEqual(result.things[-1], 3)

    def test_its_end_may_call_and_loop_and_take_errors(self):
        self.says("""
            deed f(n):
              give (n + 1)
            kind K():
              deed end(self):
                for i in [1, 2]:
                  say f(i)
                try:
                  nothere
                except NoName:
                  say "taken"
            K()
        """, "2", "3", "taken")

    def test_an_end_within_an_end(self):
        self.says(AHEAD + """
kind K():
  deed end(self):
    B("inner")
    say "outer"
K()
""", "inner", "outer")

    def test_an_end_that_hands_out_makes_a_loop_that_goes(self):
        result = self.says("""
            kind K():
              deed end(self):
                try:
                  hand 1
                finally:
                  say "never"
            K()
            say "then"
        """, "then")
        self.assertEqual((result.things[-1], result.ends), (2, [("K", 1)]))

    def test_a_sweep_in_an_end_does_nothing(self):
        result = self.says("""
            a = [1]
            a[0] = a
            let go a
            kind K():
              deed end(self):
                sweep
                say "end"
            K()
            say "then"
            sweep
            say "swept"
        """, "end", "then", "swept")
        self.assertEqual((result.at(8), result.at(10)), ([(1, 3)], [(1, 2)]))

    def test_no_end_where_twelve_calls_are_there(self):
        text = AHEAD + DEEP + 'h = [B("a")]\ndeed go1():\n  h[0] = none\n  say "then"\ndown({}, go1)'
        self.says(text.replace("{}", "8"), "a", "then")
        result = self.says(text.replace("{}", "9"), "then")
        self.assertEqual(result.ends, [("B", 1)])

    def test_swept_beings(self):
        result = self.says(AHEAD + """
a = B("a")
b = B("b")
a.other = b
b.other = a
let go b
let go a
say "then"
sweep
say "swept"
""", "then", "a", "b", "swept")
        self.assertEqual(result.ends, [("B", 1), ("B", 2)])

    def test_no_end_in_a_sweep_where_twelve_calls_are_there(self):
        text = AHEAD + DEEP + """
a = B("a")
a.me = a
let go a
deed go1():
  sweep
  say "then"
down({}, go1)
"""
        self.says(text.replace("{}", "8"), "a", "then")
        result = self.says(text.replace("{}", "9"), "then")
        self.assertEqual(result.ends, [("B", 1)])


class CallsEnd(Programs):
    def test_blocks_then_scope_then_the_answer(self):
        self.says(AHEAD + """
deed f(p):
  a = B("name")
  for i in [B("outer")]:
    i = none
    for j in [B("inner")]:
      j = none
      give [B("answer"), B("row")][0]
say [f(B("given"))]
say "then"
""", "row", "inner", "outer", "name", "list 1", "given", "answer", "then")

    def test_the_scope_is_loosed_while_the_call_is_there(self):
        result = self.run_text(AHEAD + "deed f():\n  a = B(\"a\")\nf()")
        # B, three deeds, the being and its end's scope: the one of f is gone ahead of what it held.
        self.assertEqual(result.at(4), [(3, 6)])

    def test_the_names_of_a_scope_in_the_order_of_putting(self):
        self.says(AHEAD + """
deed f(p, q):
  b = B("b")
  a = B("a")
  p = none
  p = B("p")
  let go b
  b = B("b again")
f(1, B("q"))
""", "b", "p", "a", "b again", "q")


class TheProgramEnds(Programs):
    def test_names_are_taken_out_one_by_one_in_the_order_of_putting(self):
        self.says(AHEAD + """
b = B("b")
a = B("a")
c = B("c")
b = 1
b = B("b again")
let go c
d = B("d")
c = B("c again")
say "end"
""", "b", "c", "end", "b again", "a", "d", "c again")

    def test_each_is_loosed_ahead_of_the_next(self):
        result = self.says("""
            kind K():
              deed end(self):
                try:
                  say a
                except NoName:
                  say "gone"
            b = K()
            a = 5
            c = K()
        """, "5", "gone")
        self.assertEqual(result.depths[-5:], [2, 2, 2, 2, 2])

    def test_then_a_sweep(self):
        result = self.says(AHEAD + """
a = B("ring 1")
a.me = a
b = B("ring 2")
b.me = b
c = B("plain")
""", "plain", "ring 1", "ring 2")
        self.assertEqual(result.ends, [("B", 3), ("B", 1), ("B", 2)])

    def test_the_program_counts_as_a_call_all_the_while(self):
        result = self.run_text(AHEAD + 'a = B("a")\nb = B("b")\nb.me = b')
        self.assertEqual([step[1] for step in result.steps if step[0] == 4], [2, 2])

    def test_all_is_gone_at_the_end(self):
        result = self.run_text(AHEAD + 'a = B("a")\nb = [a, B("b")]\nb[0] = b\ndeed f():\n  pass\nf = [f, Error()]')
        self.assertEqual(sorted(result.ends), [("B", 1), ("B", 2), ("Error", 3)])

    def test_an_error_that_nobody_takes(self):
        result = self.fails("""
            kind E(Error):
              deed end(self):
                say "E"
            kind K():
              deed end(self):
                say "K"
            k = K()
            try:
              raise E("w")
            finally:
              say "last"
        """, "E", "w", said=("last", "E", "K"))
        self.assertEqual(result.ends, [("E", 2), ("K", 1)])

    def test_the_error_is_told_ahead_of_its_end(self):
        self.fails("""
            kind E(Error):
              deed end(self):
                self.words = "other"
            raise E("w")
        """, "E", "w")
        self.fails("e = Error(1)\ntry:\n  raise e\nfinally:\n  e.words = 2", "Error", "2")

    def test_an_error_of_the_basket_and_blocks(self):
        self.fails(AHEAD + """
for i in [B("list")]:
  i = none
  [B("row"), nothere]
""", "NoName", said=("row", "list"))

    def test_loops_that_wait_are_left(self):
        self.says("deed l():\n  try:\n    hand 1\n  finally:\n    say \"last\"\nx = l()\npull(x)\nsay 1", "1", "last")

    def test_what_ends_make_at_the_end(self):
        result = self.says("""
            kind C():
              deed end(self):
                say "C"
            kind A():
              c = C
              deed end(self):
                self.x = self.c()
            a = A()
            a.me = a
        """, "C")
        self.assertEqual(result.ends, [("A", 1), ("C", 2)])

    def test_going_at_each_place(self):
        text = AHEAD + """
a = B("name")
b = B("ring")
b.me = b
raise Error("w")
"""
        whole = self.run_text(text)
        many = len(whole.steps)
        self.assertEqual(whole.said, ["name", "ring"])
        self.assertEqual(whole.end, ("error", "Error", "w", []))
        self.assertEqual(whole.numbers[-2:], [4, 4])
        self.assertEqual(self.run_text(text, most=many).whole, whole.whole)
        # In the sweep, among the names, and where the error was not told yet.
        for less, said, ends in ((1, ["name"], [("Error", 3), ("B", 1)]), (2, [], [("Error", 3)]), (3, [], [])):
            result = self.run_text(text, most=many - less)
            self.assertEqual((result.said, result.end, result.ends), (said, ("going",), ends))
            self.assertEqual(result.steps, whole.steps[:many - less])

    def test_going_in_an_end_in_a_loop_that_is_left_and_in_last_words(self):
        for text, said in (
            ("kind K():\n  deed end(self):\n    say 1\n    say 2\nK()\nsay 3", "1"),
            ("deed l():\n  try:\n    hand 1\n  finally:\n    say 1\n    say 2\nx = l()\npull(x)\nlet go x\nsay 3", "1"),
            ("try:\n  raise Error()\nexcept Error:\n  pass\nfinally:\n  say 1\n  say 2\nsay 3", "1"),
        ):
            whole = self.run_text(text)
            most = len(whole.steps) - 2
            result = self.run_text(text, most=most)
            self.assertEqual((result.said, result.end), ([said], ("going",)))
            self.assertEqual(len(result.steps), most)


class Sweeps(Programs):
    def test_what_calls_and_blocks_hold_is_come_to(self):
        self.says(AHEAD + """
deed deep(x):
  sweep
  say "swept"
deed f(p):
  a = B("scope")
  for i in [B("list")]:
    i = none
    try:
      raise Error(B("error"))
    except Error:
      try:
        give B("answer")
      finally:
        [B("basket"), deep(0)]
f(B("given"))
""", "swept", "basket", "error", "list", "scope", "given", "answer")

    def test_what_loops_that_wait_hold_is_come_to(self):
        self.says(AHEAD + """
deed l(p):
  for i in [B("list")]:
    i = none
    try:
      give B("answer")
    finally:
      hand 1
x = l(B("given"))
pull(x)
sweep
say "swept"
let go x
""", "swept", "answer", "list", "given")

    def test_closures_are_rings(self):
        result = self.says("""
            deed f():
              deed g():
                give g
              give 1
            f()
            say 1
            sweep
            say 2
        """, "1", "2")
        # The scope and g hold one another.
        self.assertEqual((result.at(5), result.at(7)), ([(1, 3)], [(1, 1)]))

    def test_kinds_whose_deeds_hold_the_scope_around(self):
        result = self.says("""
            deed f():
              kind K():
                deed end(self):
                  say "end"
              a = K()
            f()
            say 1
            sweep
            say 2
        """, "1", "end", "2")
        self.assertEqual(result.at(8), [(1, 1)])


if __name__ == "__main__":
    unittest.main()
