"""Promise [20]: loops, for and pull."""

import unittest

from programs import Programs
from test_reckoning import AHEAD as SORTED, SORTS

AHEAD = """
kind B():
  deed begin(self, x):
    self.x = x
  deed end(self):
    say self.x
"""
DEEP = """
deed down(n, d):
  if (n == 0):
    give d()
  give down((n - 1), d)
"""


class Loops(Programs):
    def test_a_call_makes_a_loop_and_does_nothing(self):
        result = self.says("deed l(a):\n  say 1\n  hand a\nx = l(5)\nsay x\nsay (l(1) == l(1))", "loop l", "no")
        # The deed; then the scope and the loop, too.
        self.assertEqual(result.steps, [(0, 1, 0), (3, 1, 1), (4, 1, 3), (5, 1, 3)])
        self.fails("deed l(a):\n  hand a\nl()", "BadCall")

    def test_a_hand_in_a_deed_within_makes_no_loop_of_the_outer_one(self):
        self.says("deed f():\n  deed l():\n    hand 1\n  give l\nsay f()\nsay f()()", "deed l", "loop l")

    def test_a_hand_that_is_never_come_to_makes_a_loop(self):
        self.says("deed l():\n  if no:\n    hand 1\n  say 2\nfor x in l():\n  say x\nsay 3", "2", "3")

    def test_for(self):
        self.says("deed l(n):\n  i = 0\n  while (i < n):\n    hand i\n    i = (i + 1)\n  say \"over\"\nfor x in l(3):\n  say x\nsay x",
                  "0", "1", "2", "over", "2")

    def test_pull(self):
        self.says("""
            deed l():
              say "a"
              hand 1
              say "b"
              hand 2
              say "c"
            x = l()
            say pull(x)
            say pull(x)
            try:
              pull(x)
            except NoMore as e:
              say (e.words == "")
            try:
              pull(x)
            except NoMore:
              say "over"
            for y in x:
              say y
        """, "a", "1", "b", "2", "c", "yes", "over")

    def test_pull_and_for_go_on_with_one_another(self):
        self.says("""
            deed l():
              for i in [1, 2, 3, 4, 5]:
                hand i
            x = l()
            say pull(x)
            for y in x:
              say y
              if (y == 3):
                break
            say pull(x)
            for y in x:
              say y
        """, "1", "2", "3", "4", "5")

    def test_loops_are_of_their_own(self):
        self.says("deed l():\n  hand 1\n  hand 2\na = l()\nb = l()\nsay pull(a)\nsay pull(b)\nsay pull(a)\nsay pull(b)",
                  "1", "1", "2", "2")

    def test_things_that_are_no_loops(self):
        for sort, value in SORTS.items():
            if sort != "loop":
                self.expr_fails(f"pull({value})", "BadKind", SORTED)
            if sort not in ("loop", "list", "table"):
                result = self.fails(SORTED + f"for x in {value}:\n  say 1", "BadKind", said=())
                self.assertEqual(result.numbers[-1], result.numbers[-2] + 1)

    def test_give_in_a_loop(self):
        self.says("""
            deed l(a):
              hand 1
              if a:
                give 5
              hand 2
            for x in l(yes):
              say x
            for x in l(no):
              say x
            x = l(yes)
            pull(x)
            try:
              pull(x)
            except NoMore:
              say "over"
        """, "1", "1", "2", "over")

    def test_the_answer_of_a_give_in_a_loop(self):
        # For a for it is loosed at once, for a pull with the asker's basket.
        self.says(AHEAD + """
deed l():
  hand 1
  give B("answer")
for x in l():
  say x
say "then"
y = l()
pull(y)
try:
  [B("row"), pull(y)]
except NoMore:
  say "over"
""", "1", "answer", "then", "row", "answer", "over")

    def test_errors_fly_on_to_the_asker(self):
        text = """
            deed l():
              hand 1
              raise Error("w")
              hand 2
            x = l()
            say pull(x)
            try:
              {}
            except Error as e:
              say e.words
            try:
              pull(x)
            except NoMore:
              say "over"
        """
        self.says(text.replace("{}", "pull(x)"), "1", "w", "over")
        self.says(text.replace("{}", "for y in x:\n                say y"), "1", "w", "over")

    def test_an_error_of_the_asker_does_not_come_to_the_loop(self):
        self.says("""
            deed l():
              try:
                hand 1
              except Error:
                say "never"
              hand 2
            x = l()
            try:
              for y in x:
                raise Error()
            except Error:
              say "taken"
            say pull(x)
        """, "taken", "2")

    def test_depths_and_things(self):
        result = self.says("""
            deed l():
              hand [1]
              pass
            for x in l():
              pass
        """)
        self.assertEqual(result.steps, [
            (0, 1, 0), (3, 1, 1), (3, 1, 3), (1, 2, 3), (4, 1, 4), (3, 1, 4), (2, 2, 4),
        ])

    def test_what_is_handed_out_is_held_for_the_asker(self):
        self.says(AHEAD + """
deed l():
  hand B("a")
  hand [B("b"), B("c")][0]
  say "end of rows"
x = l()
[pull(x)]
say 1
y = pull(x)
say 2
for z in x:
  pass
say 3
let go y
""", "a", "1", "c", "2", "end of rows", "3", "b")

    def test_each_next_item_is_held_put_and_loosed(self):
        self.says(AHEAD + """
deed l():
  hand B("a")
  say "between"
  hand B("b")
for x in l():
  say "in"
say "out"
let go x
""", "in", "between", "a", "in", "out", "b")

    def test_a_call_of_a_loop_within_its_own_rows(self):
        self.says("""
            deed l(n):
              if (0 < n):
                for x in l((n - 1)):
                  hand x
              hand n
            for x in l(3):
              say x
        """, "0", "1", "2", "3")


class Asked(Programs):
    def test_while_it_goes(self):
        text = """
            deed l():
              try:
                {}
              except BadCall:
                hand "it goes"
              hand 2
            x = l()
            say pull(x)
            say pull(x)
        """
        self.says(text.replace("{}", "pull(x)"), "it goes", "2")
        self.says(text.replace("{}", "for y in x:\n                  say y"), "it goes", "2")
        self.says("""
            deed f():
              give pull(x)
            deed l():
              try:
                f()
              except BadCall:
                hand "it goes"
            x = l()
            say pull(x)
        """, "it goes")

    def test_while_it_goes_ahead_of_too_deep(self):
        self.says(DEEP + """
deed ask1():
  give pull(x)
deed l():
  try:
    down(8, ask1)
  except BadCall:
    hand "goes"
x = l()
say pull(x)
""", "goes")

    def test_over_goes_ahead_of_too_deep(self):
        self.says(DEEP + """
deed l():
  hand 1
x = l()
for y in x:
  pass
deed ask1():
  try:
    pull(x)
  except NoMore:
    give "over"
say down(9, ask1)
deed ask2():
  for z in x:
    pass
  give "ended"
say down(9, ask2)
""", "over", "ended")

    def test_too_deep_and_it_waits_on(self):
        self.says(DEEP + """
deed l():
  hand 1
  hand 2
x = l()
say pull(x)
deed ask1():
  try:
    pull(x)
  except TooDeep:
    give "deep"
deed ask2():
  try:
    for z in x:
      pass
  except TooDeep:
    give "deep"
say down(9, ask1)
say down(9, ask2)
deed ask3():
  give pull(x)
say down(8, ask3)
""", "1", "deep", "deep", "2")


class For(Programs):
    def test_over_lists(self):
        self.says("for x in [1, none, [2]]:\n  say x\nfor x in []:\n  say 1\nsay x", "1", "none", "list 1", "list 1")

    def test_over_lists_that_change(self):
        self.says("a = [1, 2]\nfor x in a:\n  say x\n  if (size(a) < 5):\n    a[size(a)] = (x + 10)",
                  "1", "2", "11", "12", "21")
        self.says("a = [1, 2, 3]\nfor x in a:\n  say x\n  let go a[(size(a) - 1)]", "1", "2")
        self.says("a = [1, 2, 3]\nfor x in a:\n  say x\n  a[2] = 9", "1", "2", "9")

    def test_over_tables(self):
        self.says('for x in {"b": 1, 2: 3, "a": none}:\n  say x\nfor x in {}:\n  say 1', "b", "2", "a")

    def test_over_tables_that_change(self):
        self.says("""
            a = {1: 1, 2: 2, 3: 3}
            for k in a:
              say k
              try:
                let go a[2]
              except NoItem:
                pass
              a[(k + 10)] = 0
            say size(a)
        """, "1", "2", "3", "5")

    def test_the_thing_is_held(self):
        self.says(AHEAD + 'a = [B("a"), 2]\nfor x in a:\n  x = none\n  let go a\n  a = 1\n  say "in"\n  break\nsay "out"',
                  "in", "a", "out")
        result = self.says("a = [1]\nfor x in a:\n  let go a\n  pass\nsay 1", "1")
        self.assertEqual(result.things, [0, 1, 1, 1, 1, 1, 0])

    def test_what_is_held_is_loosed_on_each_way_out(self):
        for way, said in (
            ("break", "a then"), ("next", "a then"), ("pass", "a then"), ("raise Error()", "a taken then"),
        ):
            self.says(AHEAD + f"""
try:
  for x in [B("a")]:
    x = none
    {way}
except Error:
  say "taken"
say "then"
""", *said.split())
        self.says(AHEAD + 'deed f():\n  for x in [B("a")]:\n    x = none\n    give 5\nsay f()', "a", "5")

    def test_break_and_next(self):
        self.says("for x in [1, 2, 3, 4]:\n  if (x == 2):\n    next\n  if (x == 4):\n    break\n  say x", "1", "3")
        self.says("for x in [1, 2]:\n  for y in [3, 4]:\n    if (x == 1):\n      break\n    say y\n  say x", "1", "3", "4", "2")

    def test_while(self):
        result = self.says("i = 0\nwhile (i < 2):\n  i = (i + 1)\nsay i", "2")
        self.assertEqual(result.numbers, [0, 1, 2, 1, 2, 1, 3])
        self.says("while no:\n  say 1\nsay 2", "2")
        self.says("while yes:\n  while yes:\n    break\n  say 1\n  break", "1")

    def test_the_name_is_set_where_it_is_sought(self):
        self.says("deed f():\n  for x in [1, 2]:\n    pass\n  give x\nx = 5\nsay f()\nsay x", "2", "5")

    def test_the_old_value_of_the_name_is_loosed(self):
        self.says(AHEAD + 'x = B("old")\nfor x in [1]:\n  say "in"', "old", "in")


class Left(Programs):
    def test_a_loop_that_is_let_go_while_it_waits(self):
        self.says("""
            deed l():
              try:
                hand 1
                say "never"
              finally:
                say "last"
            x = l()
            say pull(x)
            let go x
            say "then"
        """, "1", "last", "then")

    def test_ahead_of_its_first_row(self):
        self.says(AHEAD + """
deed l(a):
  try:
    hand 1
  finally:
    say "never"
x = l(B("scope"))
let go x
say "then"
l(B("scope"))
""", "scope", "then", "scope")

    def test_by_break_of_a_for(self):
        self.says("deed l():\n  try:\n    hand 1\n  finally:\n    say 2\nfor x in l():\n  break\nsay 3", "2", "3")

    def test_by_a_sweep(self):
        result = self.says("""
            deed l():
              me = [0]
              try:
                hand me
              finally:
                say "last"
            x = l()
            y = pull(x)
            y[0] = x
            let go x
            let go y
            say "waits"
            sweep
            say "then"
        """, "waits", "last", "then")
        self.assertEqual((result.at(10)[0][1], result.at(12)), (4, [(1, 1)]))

    def test_tries_within_one_another_and_within_a_for(self):
        self.says(AHEAD + """
deed l(p):
  for i in [B("outer")]:
    i = none
    try:
      for j in [B("inner")]:
        j = none
        try:
          hand 1
        except Error:
          say "never"
        else:
          say "never"
        finally:
          say "last 1"
    finally:
      say "last 2"
  say "never"
x = l(B("scope"))
pull(x)
let go x
say "then"
""", "last 1", "inner", "last 2", "outer", "scope", "then")

    def test_it_is_a_call(self):
        result = self.run_text("deed l():\n  try:\n    hand 1\n  finally:\n    say 2\nx = l()\npull(x)\nlet go x")
        self.assertEqual(result.at(3), [(2, 3)])
        deep = self.run_text("deed l():\n  try:\n    hand 1\n  finally:\n    f()\ndeed f():\n  pass\nx = l()\npull(x)\nlet go x")
        self.assertEqual(deep.at(5), [(3, 5)])

    def test_what_an_except_holds(self):
        self.says("""
            kind E(Error):
              deed end(self):
                say "E"
            deed l():
              try:
                raise E()
              except E:
                hand 1
              finally:
                say "last"
            x = l()
            pull(x)
            let go x
            say "then"
        """, "E", "last", "then")

    def test_excepts_do_not_see_it(self):
        self.says("deed l():\n  try:\n    hand 1\n  except Error:\n    say 2\nx = l()\npull(x)\nlet go x\nsay 3", "3")

    def test_last_words_that_wait_half_done(self):
        self.says(AHEAD + """
deed l():
  try:
    try:
      give B("answer")
    finally:
      say "begun"
      hand 1
      say "never"
  finally:
    say "last"
x = l()
pull(x)
let go x
say "then"
""", "begun", "answer", "last", "then")

    def test_half_done_last_words_that_go_on(self):
        self.says("""
            deed l():
              try:
                raise Error("w")
              finally:
                hand 1
                say "gone on"
            x = l()
            say pull(x)
            try:
              pull(x)
            except Error as e:
              say e.words
        """, "1", "gone on", "w")

    def test_a_try_in_last_words_that_wait_half_done(self):
        self.says("""
            deed l():
              try:
                pass
              finally:
                try:
                  hand 1
                finally:
                  say "inner"
                say "never"
            x = l()
            pull(x)
            let go x
        """, "inner")

    def test_a_hand_in_last_words_of_a_loop_that_is_left(self):
        self.says("""
            deed tell(a):
              say a
              give a
            deed l():
              try:
                try:
                  hand 1
                finally:
                  try:
                    hand tell(2)
                  except NoHand as e:
                    say e
                  hand tell(3)
                  say "never"
              finally:
                say "last"
            x = l()
            pull(x)
            let go x
            say "then"
        """, "2", "being NoHand", "3", "last", "then")

    def test_a_hand_in_last_words_of_a_loop_that_goes_is_none(self):
        self.says("deed l():\n  try:\n    hand 1\n  finally:\n    hand 2\nfor x in l():\n  say x", "1", "2")

    def test_a_way_of_their_own_ends_them_alone(self):
        for row in ("raise Error()", "give B(\"answer\")", "break", "next", "nothere"):
            said = ["in", "answer", "out"] if "answer" in row else ["in", "out"]
            self.says(AHEAD + f"""
deed l():
  while yes:
    try:
      try:
        hand 1
      except Error:
        say "never"
      finally:
        say "in"
        {row}
        say "never"
    except Error:
      say "never"
    finally:
      say "out"
  say "never"
x = l()
pull(x)
let go x
say "then"
""", *said, "then")

    def test_an_error_of_last_words_is_loosed(self):
        self.says("""
            kind E(Error):
              deed end(self):
                say "E"
            deed l(p):
              try:
                try:
                  hand 1
                finally:
                  raise E()
              finally:
                say "out"
            x = l(1)
            pull(x)
            let go x
            say "then"
        """, "E", "out", "then")

    def test_ways_within_last_words_are_taken_there(self):
        self.says("""
            deed l():
              try:
                hand 1
              finally:
                for i in [1, 2]:
                  try:
                    nothere
                  except NoName:
                    say i
                    next
                  finally:
                    say "in"
                say "end"
            x = l()
            pull(x)
            let go x
        """, "1", "in", "2", "in", "end")

    def test_a_loop_that_is_left_is_over(self):
        self.says("""
            kind K():
              deed end(self):
                k.loop = self.loop
            deed l():
              try:
                hand 1
              finally:
                say "last"
            k = Error()
            a = K()
            a.loop = l()
            a.me = a
            pull(a.loop)
            let go a
            sweep
            say k.loop
            for z in k.loop:
              say "never"
            try:
              pull(k.loop)
            except NoMore:
              say "over"
        """, "last", "loop l", "over")

    def test_asked_in_its_own_last_words(self):
        self.says("""
            kind K():
              pass
            deed l(k):
              try:
                hand 1
              finally:
                try:
                  pull(k.me)
                except BadCall:
                  say "it goes"
            k = K()
            k.me = l(k)
            pull(k.me)
            let go k
            sweep
            say "then"
        """, "it goes", "then")

    def test_left_where_twelve_calls_are_there(self):
        text = AHEAD + DEEP + """
deed l(p):
  for i in [B("list")]:
    i = none
    try:
      try:
        give B("answer")
      finally:
        hand 1
    finally:
      say "last"
h = [l(B("scope"))]
pull(h[0])
deed go1():
  h[0] = none
  say "then"
down({}, go1)
"""
        self.says(text.replace("{}", "7"), "answer", "last", "list", "scope", "then")
        # The loop is the twelfth call, and no end can be called in it.
        result = self.says(text.replace("{}", "8"), "last", "then")
        self.assertEqual(result.ends, [("B", 3), ("B", 2), ("B", 1)])
        # It is not left, but what it holds goes in the order in which it would be loosed.
        result = self.says(text.replace("{}", "9"), "then")
        self.assertEqual(result.ends, [("B", 3), ("B", 2), ("B", 1)])


if __name__ == "__main__":
    unittest.main()
