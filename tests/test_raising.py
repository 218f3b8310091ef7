"""Promise [19]: errors, excepts and last words."""

import unittest

from programs import Programs

AHEAD = """
kind B():
  deed begin(self, x):
    self.x = x
  deed end(self):
    say self.x
"""


class Raise(Programs):
    def test_an_error_ends_the_program(self):
        self.fails('say 1\nraise Error("w")\nsay 2', "Error", "w", said=("1",))
        self.fails("raise NoName()", "NoName")
        self.fails("kind E(TooBig):\n  pass\nraise E(5)", "E", "5")

    def test_what_is_no_error(self):
        for expr in ("1", '"a"', "none", "[]", "Error", "K", "K()", "f"):
            self.fails(f"kind K():\n  pass\ndeed f():\n  pass\nraise {expr}", "BadCall")

    def test_from(self):
        self.fails('raise Error("a") from NoName("b")', "Error", "a", [("NoName", "b")])
        self.fails('raise Error("a") from none', "Error", "a")
        for expr in ("1", "Error", "K()", "no", "[]"):
            self.fails(f"kind K():\n  pass\nraise Error() from {expr}", "BadCall")
            self.fails(f"kind K():\n  pass\nraise {expr} from Error()", "BadCall")

    def test_the_field_cause(self):
        self.says("""
            try:
              raise Error("a") from NoName("b")
            except Error as e:
              say e.cause.words
            try:
              raise e from none
            except Error:
              say e.cause
            try:
              raise e
            except Error:
              say e.cause
            try:
              raise Error()
            except Error as f:
              pass
            try:
              say f.cause
            except NoField:
              say "no cause"
        """, "b", "none", "none", "no cause")

    def test_the_cause_is_not_put_where_the_look_fails(self):
        self.says("""
            e = Error()
            try:
              raise e from 1
            except BadCall:
              pass
            try:
              say e.cause
            except NoField:
              say "no cause"
        """, "no cause")

    def test_both_are_reckoned_ahead_of_the_look(self):
        self.fails("raise none from nothere", "NoName")
        self.fails("raise nothere from none()", "NoName")

    def test_it_leaves_its_statement_then_its_blocks_then_its_calls(self):
        self.says(AHEAD + """
deed f(x):
  a = B("scope")
  for i in [B("list")]:
    i = none
    [B("basket"), g(B("given"))]
deed g(y):
  for j in [B("inner")]:
    j = none
    raise Error()
try:
  f(B("outer"))
except Error:
  say "taken"
""", "inner", "basket", "given", "list", "scope", "outer", "taken")

    def test_it_is_held_while_it_flies(self):
        result = self.says("""
            deed f():
              raise Error()
            try:
              try:
                f()
              finally:
                sweep
                say "last"
            except Error as e:
              say e
        """, "last", "being Error")
        self.assertEqual(result.at(7), [(1, 2)])


class Excepts(Programs):
    def test_the_first_one_that_is_a_kind_of_the_error_takes_it(self):
        text = """
            try:
              raise {}("w")
            except NoName:
              say 1
            except NoField as e:
              say e
            except Error as e:
              say e.words
            except NoItem:
              say 4
        """
        self.says(text.replace("{}", "NoName"), "1")
        self.says(text.replace("{}", "NoField"), "being NoField")
        self.says(text.replace("{}", "NoItem"), "w")
        self.says(text.replace("{}", "Error"), "w")

    def test_none_takes_it(self):
        self.fails("try:\n  raise NoName()\nexcept NoField:\n  say 1\nexcept TooBig:\n  say 2", "NoName", said=())

    def test_kinds_along_the_order(self):
        self.says("""
            kind A(Error):
              pass
            kind B(A, NoName):
              pass
            for k in [A, NoName, Error, B]:
              try:
                raise B()
              except k:
                say k
        """, "kind A", "kind NoName", "kind Error", "kind B")
        self.fails("kind A(Error):\n  pass\nkind B(A):\n  pass\ntry:\n  raise A()\nexcept B:\n  pass", "A")

    def test_a_kind_that_is_no_errors_takes_none(self):
        self.fails("kind K():\n  pass\ntry:\n  raise Error()\nexcept K:\n  pass", "Error")

    def test_any_kind_of_the_order_takes_it(self):
        self.says("kind K():\n  pass\nkind E(K, Error):\n  pass\ntry:\n  raise E()\nexcept K:\n  say 1", "1")

    def test_a_name_that_is_not_there_or_no_kind(self):
        self.fails("try:\n  raise Error()\nexcept nothere:\n  say 1\nexcept Error:\n  say 2", "NoName", said=())
        self.fails("a = 1\ntry:\n  raise Error()\nexcept a:\n  say 1\nexcept Error:\n  say 2", "BadKind", said=())
        # Names behind the one that takes it are not read.
        self.says("try:\n  raise Error()\nexcept Error:\n  say 1\nexcept nothere:\n  say 2", "1")
        self.says("try:\n  pass\nexcept nothere:\n  say 2\nsay 3", "3")
        # It flies past this try's excepts to those around.
        self.says("""
            try:
              try:
                raise NoField()
              except nothere:
                say 1
              except NoName:
                say 2
              finally:
                say "last"
            except NoName as e:
              say e
        """, "last", "being NoName")

    def test_the_other_one_is_loosed_when_the_new_one_is_made(self):
        result = self.says("""
            kind E(Error):
              deed end(self):
                say "end"
            try:
              try:
                raise E()
              except nothere:
                pass
              finally:
                say "last"
            except NoName:
              pass
        """, "end", "last")
        self.assertEqual(result.ends, [("E", 1), ("NoName", 2)])
        # At the end both errors are there, and a scope; E and its deed are, too.
        self.assertEqual(result.at(2), [(2, 5)])

    def test_the_names_are_read_without_the_basket(self):
        self.says("""
            kind E(Error):
              deed end(self):
                say "end"
            deed f():
              kind K(E):
                pass
              try:
                raise K()
              except K:
                let go K
                say "in"
              say "out"
            f()
        """, "in", "end", "out")

    def test_the_error_is_held_until_the_rows_are_left(self):
        ahead = "kind E(Error):\n  deed end(self):\n    say \"end\"\n"
        self.says(ahead + "try:\n  raise E()\nexcept E:\n  say 1\nsay 2", "1", "end", "2")
        self.says(ahead + "try:\n  raise E()\nexcept E:\n  say 1\nfinally:\n  say 2\nsay 3", "1", "end", "2", "3")
        self.says(ahead + "try:\n  raise E()\nexcept E as e:\n  let go e\n  say 1\nsay 2", "1", "end", "2")
        self.says(ahead + "try:\n  raise E()\nexcept E as e:\n  say 1\nsay 2\nlet go e\nsay 3", "1", "2", "end", "3")
        self.says(ahead + "while yes:\n  try:\n    raise E()\n  except E:\n    break\n  finally:\n    say 1\nsay 2",
                  "end", "1", "2")

    def test_the_name_behind_as(self):
        self.says(AHEAD + """
e = B("old")
try:
  raise Error("w")
except Error as e:
  say "in"
say e.words
""", "old", "in", "w")

    def test_an_error_in_an_except_flies_on(self):
        self.fails("try:\n  raise NoName()\nexcept NoName:\n  raise NoField()\nexcept NoField:\n  say 1", "NoField", said=())
        self.says("""
            try:
              try:
                raise NoName()
              except NoName:
                raise NoField()
              except NoField:
                say 1
              finally:
                say 2
            except NoField:
              say 3
        """, "2", "3")

    def test_else(self):
        text = """
            try:
              {}
            except NoName:
              say 1
            else:
              say 2
            finally:
              say 3
            say 4
        """
        self.says(text.replace("{}", "pass"), "2", "3", "4")
        self.says(text.replace("{}", "nothere"), "1", "3", "4")
        self.fails(text.replace("{}", "raise Error()"), "Error", said=("3",))
        self.says("for i in [1, 2]:\n  try:\n    next\n  except Error:\n    pass\n  else:\n    say 1\n  finally:\n    say i",
                  "1", "2")

    def test_an_error_in_else_is_not_this_trys(self):
        self.fails("try:\n  pass\nexcept NoName:\n  say 1\nelse:\n  nothere\nfinally:\n  say 2", "NoName", said=("2",))


class Again(Programs):
    def test_the_nearest_rows_around(self):
        self.says("""
            try:
              try:
                raise Error(1)
              except Error:
                try:
                  raise Error(2)
                except Error as e:
                  say e.words
                raise
            except Error as e:
              say e.words
        """, "2", "1")
        self.says("""
            try:
              try:
                raise Error(1)
              except Error:
                try:
                  raise Error(2)
                except Error:
                  raise
            except Error as e:
              say e.words
        """, "2")

    def test_within_other_blocks_of_these_rows(self):
        self.fails("try:\n  raise Error(1)\nexcept Error:\n  for i in [1]:\n    if yes:\n      raise", "Error", "1")
        self.fails("try:\n  raise Error(1)\nexcept Error:\n  try:\n    pass\n  finally:\n    raise", "Error", "1")
        self.fails("try:\n  raise Error(1)\nexcept Error:\n  try:\n    raise\n  finally:\n    say 1", "Error", "1", said=("1",))

    def test_without_such_rows(self):
        self.fails("raise", "BadCall")
        self.fails("try:\n  raise Error()\nexcept Error:\n  pass\nraise", "BadCall")
        self.fails("try:\n  raise\nexcept NoName:\n  pass", "BadCall")
        self.fails("try:\n  raise Error()\nexcept Error:\n  pass\nfinally:\n  raise", "BadCall")
        self.fails("try:\n  raise Error()\nfinally:\n  raise", "BadCall")
        self.fails("try:\n  pass\nexcept Error:\n  pass\nelse:\n  raise", "BadCall")
        # Those of another call do not count.
        self.fails("deed f():\n  raise\ntry:\n  raise Error()\nexcept Error:\n  f()", "BadCall")

    def test_it_is_the_same_error(self):
        result = self.fails("try:\n  raise Error(1)\nexcept Error:\n  raise", "Error", "1")
        self.assertEqual(result.ends, [("Error", 1)])


class LastWords(Programs):
    def test_at_the_end(self):
        self.says("try:\n  say 1\nfinally:\n  say 2\nsay 3", "1", "2", "3")
        self.says("try:\n  nothere\nexcept NoName:\n  say 1\nfinally:\n  say 2\nsay 3", "1", "2", "3")

    def test_by_an_error(self):
        self.fails("try:\n  raise Error()\nfinally:\n  say 2", "Error", said=("2",))
        self.fails("try:\n  nothere\nexcept NoName:\n  raise Error()\nfinally:\n  say 2", "Error", said=("2",))
        self.fails("try:\n  pass\nexcept NoName:\n  pass\nelse:\n  raise Error()\nfinally:\n  say 2", "Error", said=("2",))

    def test_by_break_and_next(self):
        self.says("for i in [1, 2]:\n  try:\n    break\n  finally:\n    say i\nsay 3", "1", "3")
        self.says("for i in [1, 2]:\n  try:\n    next\n  finally:\n    say i\nsay 3", "1", "2", "3")
        self.says("""
            i = 0
            while (i < 3):
              i = (i + 1)
              try:
                try:
                  if (i == 2):
                    break
                  next
                finally:
                  say "in"
              finally:
                say "out"
            say i
        """, "in", "out", "in", "out", "2")

    def test_by_give(self):
        self.says("deed f():\n  try:\n    give 1\n  finally:\n    say 2\nsay f()", "2", "1")
        self.says("""
            deed f():
              try:
                nothere
              except NoName:
                for x in [1, 2]:
                  try:
                    give x
                  finally:
                    say "in"
              finally:
                say "out"
            say f()
        """, "in", "out", "1")

    def test_an_answer_is_held_meanwhile(self):
        self.says(AHEAD + 'deed f():\n  try:\n    give B("a")\n  finally:\n    say 1\n    sweep\nx = f()\nsay 2\nlet go x',
                  "1", "2", "a")

    def test_an_error_is_held_meanwhile(self):
        ahead = "kind E(Error):\n  deed end(self):\n    say \"end\"\n"
        self.says(ahead + "try:\n  try:\n    raise E()\n  finally:\n    sweep\n    say 1\nexcept E:\n  say 2\nsay 3",
                  "1", "2", "end", "3")

    def test_a_way_of_their_own_goes_on(self):
        self.says("deed f():\n  try:\n    give 1\n  finally:\n    give 2\nsay f()", "2")
        self.says("deed f():\n  try:\n    raise Error()\n  finally:\n    give 2\nsay f()", "2")
        self.fails("deed f():\n  try:\n    give 1\n  finally:\n    raise Error()\nsay f()", "Error")
        self.fails("try:\n  raise NoName()\nfinally:\n  raise NoField()", "NoField")
        self.says("for i in [1, 2]:\n  try:\n    raise Error()\n  finally:\n    next\nsay 3", "3")
        self.says("for i in [1, 2]:\n  try:\n    next\n  finally:\n    break\nsay i", "1")
        self.says("for i in [1, 2]:\n  try:\n    break\n  finally:\n    next\nsay i", "2")
        self.says("deed f():\n  while yes:\n    try:\n      give 1\n    finally:\n      break\n  give 2\nsay f()", "2")

    def test_a_way_within_them_is_not_one_out_of_them(self):
        self.fails("try:\n  raise Error(1)\nfinally:\n  for i in [1]:\n    break\n  try:\n    nothere\n  except NoName:\n    say 1",
                   "Error", "1", said=("1",))

    def test_the_other_ones_answer_or_error_is_loosed(self):
        ahead = AHEAD + "kind E(Error):\n  deed end(self):\n    say \"E\"\n"
        # The new way's answer is held, its statement is left, and the blocks within the last words are.
        self.says(ahead + """
deed f():
  try:
    give B("first")
  finally:
    for i in [B("list")]:
      i = none
      give [B("second"), B("row")][0]
x = f()
say "then"
""", "row", "list", "first", "then", "second")
        self.says(ahead + """
deed f():
  try:
    raise E()
  finally:
    give B("second")
x = f()
say "then"
""", "E", "then", "second")
        self.says(ahead + """
for i in [1]:
  try:
    raise E()
  finally:
    break
say "then"
""", "E", "then")
        result = self.says(ahead + """
try:
  try:
    raise E(1)
  finally:
    raise E(2)
except E as e:
  say e.words
say "then"
let go e
""", "E", "2", "then", "E")
        self.assertEqual(result.ends, [("E", 1), ("E", 2)])

    def test_they_are_done_once(self):
        self.fails("try:\n  pass\nfinally:\n  say 1\n  raise Error()", "Error", said=("1",))
        self.says("""
            try:
              try:
                pass
              finally:
                say 1
                nothere
            except NoName:
              say 2
        """, "1", "2")

    def test_steps(self):
        result = self.says("try:\n  nothere\nexcept NoName:\n  pass\nfinally:\n  pass")
        self.assertEqual(result.steps, [(0, 1, 0), (1, 1, 0), (2, 1, 1), (3, 1, 0)])


if __name__ == "__main__":
    unittest.main()
