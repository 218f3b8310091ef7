"""Promise [16]: fields and items."""

import unittest

from programs import Programs
from test_reckoning import AHEAD, SORTS

KINDS = """
kind A():
  x = "A.x"
  y = "A.y"
  deed f(self):
    give ["A.f", self]
kind B(A):
  x = "B.x"
  deed g(self, p):
    give p
kind C(A):
  y = "C.y"
  z = A
kind D(B, C):
  pass
d = D()
"""


class Fields(Programs):
    def test_own_fields(self):
        self.says(KINDS + "d.q = 1\nsay d.q\nd.q = 2\nsay d.q\nlet go d.q\ntry:\n  say d.q\nexcept NoField:\n  say 3",
                  "1", "2", "3")

    def test_along_the_order(self):
        # The order of D is D, B, C, A.
        self.says(KINDS + "say d.x\nsay d.y\nsay d.z\nsay D.x\nsay D.y\nsay C.x\nsay B.y",
                  "B.x", "C.y", "kind A", "B.x", "C.y", "A.x", "A.y")

    def test_own_fields_go_ahead(self):
        self.says(KINDS + "d.x = 1\nsay d.x\nsay D.x\nlet go d.x\nsay d.x", "1", "B.x", "B.x")

    def test_an_own_field_that_is_a_deed_is_not_tied(self):
        self.says(KINDS + "d.f = A.f\nsay d.f\nsay D().f\nd.h = B.g\nsay d.h(5, 6)", "deed f", "tied f", "6")

    def test_deeds_are_tied(self):
        self.says(KINDS + "say d.f\nsay d.f()[0]\nsay (d.f()[1] == d)\nsay d.g(7)", "tied f", "A.f", "yes", "7")

    def test_a_new_tied_thing_each_time(self):
        self.says(KINDS + "say (d.f == d.f)\nt = d.f\nsay (t == t)", "no", "yes")
        result = self.says(KINDS + "deed h(t):\n  pass\nh(d.f)\nd.f()\nsay 1", "1")
        # Four kinds, their two deeds, h and d; then a scope and a tied thing, too.
        self.assertEqual((result.at(17), result.at(19)), ([(1, 8)], [(1, 8)]))
        self.assertEqual((result.at(16), result.at(4)), ([(2, 10)], [(2, 10)]))

    def test_other_things_than_deeds_are_told_as_they_stand(self):
        self.says(KINDS + "A.t = d.f\nsay D().t\nsay (D().t == A.t)\nA.k = A\nsay d.k", "tied f", "yes", "kind A")

    def test_fields_of_kinds_are_not_tied(self):
        self.says(KINDS + "say D.f\nsay D.g(1, 2)\nsay (A.f == D.f)", "deed f", "2", "yes")

    def test_no_field(self):
        for expr in ("d.q", "D.q", "A.z", "Error.words", "d.begin", "Error().cause"):
            self.expr_fails(expr, "NoField", KINDS)
        self.shows("Error().words", "")

    def test_fields_of_other_sorts(self):
        for sort, value in SORTS.items():
            if sort not in ("being", "kind"):
                self.expr_fails(f"{value}.x", "NoField", AHEAD)
                self.fails(AHEAD + f"{value}.x = 1", "NoField")
                self.fails(AHEAD + f"let go {value}.x", "NoField")

    def test_setfield_of_a_kind(self):
        self.says(KINDS + "A.q = 5\nsay d.q\nB.q = 6\nsay d.q\nlet go B.q\nsay d.q\nC.y = 7\nsay d.y",
                  "5", "6", "5", "7")

    def test_dropfield_takes_ones_own_alone(self):
        self.fails(KINDS + "let go d.x", "NoField")
        self.fails(KINDS + "let go D.x", "NoField")
        self.fails(KINDS + "d.q = 1\nlet go d.q\nlet go d.q", "NoField")
        self.says(KINDS + "let go B.x\nsay d.x\nlet go A.f", "A.x")

    def test_the_value_is_reckoned_ahead_of_the_look(self):
        self.fails("none.x = nothere", "NoName")
        self.fails("nothere.x = none()", "NoName")
        self.fails("none.x = [].y", "NoField")
        self.fails("say none.x.y", "NoField")

    def test_a_set_field_is_held_ahead_of_the_old_ones_going(self):
        self.says("""
            kind B():
              deed end(self):
                say "end"
            kind A():
              pass
            a = A()
            a.x = B()
            say 1
            a.x = a.x
            say 2
            a.x = none
            say 3
            let go a
        """, "1", "2", "end", "3")


class Items(Programs):
    def test_of_lists(self):
        self.says("a = [5, 6]\nsay a[0]\nsay a[1]\na[0] = 7\nsay a[0]\nsay size(a)", "5", "6", "7", "2")
        for key in ("2", "(0 - 1)", "3", "999999999"):
            self.expr_fails(f"[5, 6][{key}]", "NoItem")
        self.expr_fails("[][0]", "NoItem")

    def test_of_tables(self):
        self.says("""
            a = {1: "n", "1": "t", "": 0}
            say a[1]
            say a["1"]
            say a[""]
            a[(0 - 5)] = "m"
            say a[(0 - 5)]
            a[1] = "o"
            say a[1]
            say size(a)
        """, "n", "t", "0", "m", "o", "4")
        self.expr_fails("{}[0]", "NoItem")
        self.expr_fails('{1: 2}["1"]', "NoItem")

    def test_other_keys(self):
        for key in ("yes", "no", "none", "[]", "Error", "Error()"):
            for thing in ("[1, 2]", "{0: 1}"):
                self.expr_fails(f"{thing}[{key}]", "BadKind")
                self.fails(f"{thing}[{key}] = 1", "BadKind")
                self.fails(f"let go {thing}[{key}]", "BadKind")
            self.expr_fails("{%s: 1}" % key, "BadKind")
        self.expr_fails('[1]["0"]', "BadKind")
        self.fails('[1]["0"] = 1', "BadKind")
        self.fails('let go [1]["0"]', "BadKind")

    def test_things_of_other_sorts(self):
        for sort, value in SORTS.items():
            if sort not in ("list", "table"):
                self.expr_fails(f"{value}[0]", "BadKind", AHEAD)
                self.fails(AHEAD + f"{value}[0] = 1", "BadKind")
                self.fails(AHEAD + f"let go {value}[0]", "BadKind")

    def test_setitem_at_the_size_puts_one_behind(self):
        self.says("a = []\na[0] = 1\na[1] = 2\na[size(a)] = 3\nsay size(a)\nsay a[2]", "3", "3")
        for key in ("1", "2", "(0 - 1)"):
            self.fails(f"a = []\na[{key}] = 1", "NoItem")

    def test_dropitem_takes_the_last_one_alone(self):
        self.says("a = [1, 2, 3]\nlet go a[2]\nsay size(a)\nlet go a[1]\nlet go a[0]\nsay size(a)\na[0] = 9\nsay a[0]",
                  "2", "0", "9")
        for key in ("0", "1", "3", "(0 - 1)"):
            self.fails(f"a = [1, 2, 3]\nlet go a[{key}]", "NoItem")
        self.fails("let go [][0]", "NoItem")

    def test_dropitem_of_tables(self):
        self.says('a = {1: 2, "k": 3, 0: 4}\nlet go a[1]\nlet go a["k"]\nsay size(a)\nsay a[0]', "1", "4")
        self.fails("a = {1: 2}\nlet go a[2]", "NoItem")
        self.fails('a = {1: 2}\nlet go a["1"]', "NoItem")

    def test_a_key_put_anew_keeps_its_place_and_one_taken_out_does_not(self):
        self.says("""
            a = {1: 1, 2: 2, 3: 3}
            a[1] = 4
            let go a[2]
            a[2] = 5
            for k in a:
              say k
        """, "1", "3", "2")

    def test_the_parts_are_reckoned_ahead_of_the_value_and_all_ahead_of_the_look(self):
        ahead = "deed f(x):\n  say x\n  give x\n"
        self.fails(ahead + "f(1)[f(2)] = f(3)", "BadKind", said=("1", "2", "3"))
        self.fails(ahead + "f(1).x = f(3)", "NoField", said=("1", "3"))
        self.fails(ahead + "let go f(1)[f(2)]", "BadKind", said=("1", "2"))
        self.fails(ahead + "f(1)[f(2)]", "BadKind", said=("1", "2"))

    def test_table_keys_are_looked_at_when_all_is_reckoned(self):
        ahead = "deed f(x):\n  say x\n  give x\n"
        self.fails(ahead + "a = {f(none): f(1), f(2): f(3)}", "BadKind", said=("none", "1", "2", "3"))
        self.fails("a = {none: nothere}", "NoName")

    def test_too_big_comes_behind_no_item(self):
        many = "a = []\nwhile (size(a) < 400):\n  a[size(a)] = 1\n"
        self.fails(many + "a[400] = 1", "TooBig")
        self.fails(many + "a[401] = 1", "NoItem")
        self.says(many + "a[399] = 2\nlet go a[399]\na[399] = 3\nsay a[399]", "3")


if __name__ == "__main__":
    unittest.main()
