"""Promise [18]: what baskets hold and when they are emptied, the order of reckoning, and the statement of a kind."""

import unittest

from programs import Programs, unindented

# B says its name at its end; tell says what it is given and gives it back.
AHEAD = """
kind B():
  deed begin(self, x):
    self.x = x
  deed end(self):
    say self.x
  deed me(self):
    give self
deed tell(x):
  say x
  give x
"""
# How many statements AHEAD has.
FIRST = 10


class Baskets(Programs):
    def behind(self, rows, *said, given=()):
        return self.says(AHEAD + rows, *said, given=given)

    def things_in(self, expr, more, ahead=""):
        """How many things there are more while an expression is reckoned as a last argument."""
        text = AHEAD + "deed look(x):\n  pass\n" + ahead + f"\n[{expr}, look(0)]"
        result = self.run_text(text)
        self.assertEqual(result.end, ("ended",), expr)
        # The scope of look and look itself are there besides.
        base = [step[2] for step in result.steps if step[1] == 1][-1]
        self.assertEqual([step[2] for step in result.steps if step[0] == FIRST + 1][-1], base + 1 + more, expr)

    def test_each_form_of_expression_is_held_until_the_statement_ends(self):
        self.things_in("1", 0)
        self.things_in("[]", 1)
        self.things_in("[[], {}]", 3)
        self.things_in("{1: [], 2: {}}", 3)
        self.things_in("([] + [])", 3)
        self.things_in("([] == [])", 2)
        self.things_in("(not [])", 1)
        self.things_in("([] and {})", 2)
        self.things_in("([] or {})", 1)
        self.things_in("(no or {})", 1)
        self.things_in("size([[]])", 2)
        self.things_in("[[]][0]", 2)
        self.things_in('{"k": []}["k"]', 2)
        self.things_in('B("")', 1)
        self.things_in('B("").x', 1)
        self.things_in('B("").me', 2)
        self.things_in('B("").me()', 2)
        self.things_in("tell([])", 1)
        self.things_in("Error([])", 2)
        self.things_in("B", 0)
        self.things_in("l()", 2, "deed l():\n  hand []")
        # The loop, its scope, and what it handed out.
        self.things_in("pull(l())", 3, "deed l():\n  hand []")

    def test_the_basket_is_emptied_in_order_behind_a_statement(self):
        self.behind('[B("a"), B("b")]\nsay "then"', "a", "b", "then")
        self.behind('say [B("a"), B("b")]', "list 2", "a", "b")
        self.behind('tell(B("a"))\ntell(B("b"))', "being B", "a", "being B", "b")
        self.behind('(B("a") == [B("b")])', "a", "b")
        self.behind('x = size([B("a")])\nsay x', "a", "1")

    def test_a_list_ahead_of_what_it_has_is_gone_only_with_it(self):
        # The list is the whole and comes last: its items stand ahead of it in the basket, but it holds them.
        # What the inner list has waits in the row behind what stands in the outer one.
        self.behind('[[B("a")], B("b")]\nsay "then"', "b", "a", "then")
        self.behind('{"k": B("a"), 1: B("b")}', "a", "b")

    def test_each_simple_statement_empties_the_basket(self):
        for row, said in (
            ('y = size([B("a")])', "a"), ('t.x = size([B("a")])', "a"), ('li[0] = size([B("a")])', "a"),
            ('say size([B("a")])', "1 a"), ('B("a")', "a"), ('let go [t, B("a")][0].y', "a"),
            ('let go [[1], B("a")][0][0]', "a"), ("pass", ""), ("sweep", ""), ("let go z", ""),
        ):
            text = "kind T():\n  pass\nt = T()\nt.y = 1\nz = 1\nli = [1]\n" + row + '\nsay "then"'
            self.behind(text, *said.split(), "then")

    def test_each_head_empties_the_basket(self):
        self.behind('if B("a"):\n  say "then"', "a", "then")
        self.behind('if (not B("a")):\n  pass\nelse:\n  say "then"', "a", "then")
        self.behind('while (B("a") == 1):\n  pass\nsay "then"', "a", "then")
        self.behind('i = 0\nwhile (B("a") and (i < 1)):\n  say "in"\n  i = (i + 1)', "a", "in", "a")
        self.behind('for x in [1, [B("a")]][1]:\n  say "in"\n  let go x', "in", "a")
        self.behind('for x in [size([B("a")]), 2]:\n  say x', "a", "1", "2")

    def test_a_set_holds_the_new_value_looses_the_old_one_then_empties_the_basket(self):
        self.behind('a = B("old")\na = [B("new"), B("c")][0]', "old", "c", "new")
        self.behind('a = B("a")\na = a\nsay "then"', "then", "a")
        self.behind('a = B("a")\na = [a]\nsay "then"', "then", "a")

    def test_names_read_are_held(self):
        self.behind("""
kind T():
  deed f(self, x):
    let go t.b
    say "in"
t = T()
t.b = B("b")
[t.b, t.f(0)]
say "then"
""", "in", "b", "then")

    def test_a_call_ends_ahead_of_its_askers_basket(self):
        self.behind('deed f(x):\n  y = B("own")\n  [B("row")]\n  say "in"\nf(B("given"))\nsay "then"',
                    "row", "in", "own", "given", "then")

    def test_things_at_each_step(self):
        result = self.run_text("""
            a = []
            b = [a, {}]
            c = (b + b)
            let go b
            let go c
            say a
        """)
        self.assertEqual(result.steps, [(0, 1, 0), (1, 1, 1), (2, 1, 3), (3, 1, 4), (4, 1, 3), (5, 1, 1)])

    def test_answers_are_held_by_the_askers_basket_alone(self):
        self.behind('deed f():\n  give B("a")\nsay [f(), f()]\nsay "then"', "list 2", "a", "a", "then")
        self.behind('deed f():\n  a = B("a")\n  give a\nb = f()\nsay "then"\nlet go b', "then", "a")


class OrderOfReckoning(Programs):
    def order(self, row, *said, end=("ended",)):
        text = """
            deed t(x):
              say x
              give [x, x]
            deed c(x):
              say x
              give t
            """
        result = self.run_text(unindented(text) + "\n" + row)
        self.assertEqual((result.said, result.end), (list(said), end))

    def test_from_the_left_to_the_right(self):
        self.order("[t(1), t(2), [t(3), t(4)]]", *"1234")
        self.order("{t(1)[0]: t(2), t(3)[0]: t(4)}", *"1234")
        self.order("((t(1) + t(2)) == (t(3) + t(4)))", *"1234")
        self.order("t(1)[t(0)[0]]", "1", "0")
        self.order("c(1)(t(2))", "1", "2", "list 2")
        self.order("c(1)([t(2), t(3)])", "1", "2", "3", "list 2")
        self.order("t(1)[(t(2)[0] - t(2)[1])] = t(3)", "1", "2", "2", "3")
        self.order("raise t(1) from t(2)", "1", "2", end=("error", "BadCall", "", []))


class TheStatementOfADeed(Programs):
    def test_it_puts_a_new_deed_to_its_name(self):
        self.says("deed f():\n  give 1\na = f\ndeed f():\n  give 2\nsay a()\nsay f()\nsay (a == f)", "1", "2", "no")
        self.says("deed g():\n  deed f():\n    pass\n  give f\nsay (g() == g())", "no")

    def test_the_old_value_is_loosed(self):
        self.says(AHEAD + 'f = B("a")\ndeed f():\n  pass\nsay "then"', "a", "then")


class TheStatementOfAKind(Programs):
    def test_elders_in_order_and_bad_kind(self):
        self.fails("a = 1\nkind K(a):\n  pass", "BadKind")
        self.fails("deed f():\n  pass\nkind K(Error, f):\n  pass", "BadKind")
        self.fails("kind K(Error, f):\n  pass", "NoName")
        # Each is looked at as it is read.
        self.fails("a = 1\nkind K(a, nothere):\n  pass", "BadKind")
        self.fails("a = 1\nkind K(nothere, a):\n  pass", "NoName")

    def test_no_order(self):
        self.fails("kind A():\n  pass\nkind B(A):\n  pass\nkind C(A, B):\n  pass", "NoOrder")
        self.fails("kind A():\n  pass\nkind C(A, A):\n  pass", "NoOrder")
        self.fails("kind A():\n  pass\na = A\nkind C(A, a):\n  pass", "NoOrder")
        self.fails("kind A(Error):\n  pass\nkind C(Error, A):\n  pass", "NoOrder")
        self.fails("""
            kind A():
              pass
            kind B():
              pass
            kind C(A, B):
              pass
            kind D(B, A):
              pass
            kind E(C, D):
              pass
        """, "NoOrder")

    def test_kinds_are_told_apart_by_themselves_not_by_their_names(self):
        self.says("""
            kind A():
              x = 1
            a = A
            kind A():
              x = 2
            kind B(a, A):
              pass
            say B.x
            kind C(A, a):
              pass
            say C.x
        """, "1", "2")

    def test_a_kind_of_its_own_name(self):
        self.says("kind A():\n  x = 1\nkind A(A):\n  y = 2\nsay A.x\nsay A.y\nsay A().x", "1", "2", "1")

    def test_the_name_is_set_behind_the_rows(self):
        self.says("K = 5\nkind K():\n  x = K\n  y = (K + 1)\nsay K.x\nsay K.y", "5", "6")
        self.fails("kind K():\n  x = K", "NoName")

    def test_rows_put_parts(self):
        self.says("""
            kind K():
              x = 1
              pass
              deed f(self):
                give self
              x = 2
              deed x(self):
                give 3
            say K.x
            say K().x()
        """, "deed x", "3")

    def test_the_kind_is_held_until_its_name_is_set(self):
        result = self.says("kind K():\n  pass\n  x = []\n  pass\nsay 1\nlet go K\nsay 2", "1", "2")
        self.assertEqual(result.things, [0, 1, 1, 2, 2, 2, 0])

    def test_an_error_leaves_it(self):
        result = self.says("""
            try:
              kind K():
                x = []
                y = nothere
            except NoName:
              say 1
            say 2
        """, "1", "2")
        # The list and the kind are gone when the error is taken, the error is there.
        self.assertEqual((result.at(4), result.at(5)), ([(1, 1)], [(1, 0)]))

    def test_the_kind_is_swept_neither_by_a_call_in_its_rows(self):
        self.says("""
            deed f():
              sweep
              give 5
            kind K():
              x = [1]
              y = f()
            say K.x[0]
            say K.y
        """, "1", "5")

    def test_the_basket_is_emptied_ahead_of_the_rows(self):
        result = self.run_text("""
            kind A():
              pass
            deed f():
              kind K(A):
                pass
              give K
            f()
        """)
        self.assertEqual(result.at(4), [(2, 4)])

    def test_a_set_in_its_rows_empties_the_basket(self):
        self.says(AHEAD + 'kind K():\n  x = [B("new"), B("c")][0]\n  x = 1\n  deed f():\n    pass\nsay "then"',
                  "c", "new", "then")

    def test_an_old_value_of_its_name_is_loosed(self):
        self.says(AHEAD + 'K = B("a")\nkind K():\n  x = 1\nsay "then"', "a", "then")


if __name__ == "__main__":
    unittest.main()
