"""Promise [6]: the statements of a tree, and the names that a deed has of its own."""

import random
import unittest

from samples import BLOCKS, PASS, SIMPLE, made_rows
from snakehall.naming import own_names, statements
from snakehall.trees import text_of, tree_of

ARMS = ("else:", "except ", "finally:")


def first_rows(tree):
    """The first rows of all statements, as the text shows them: its rows but the arms."""
    rows = [row.strip(" ") for row in text_of(tree).split("\n")]
    return [row for row in rows if row and not row.startswith(ARMS)]


def own(text, *given):
    return own_names(tree_of(text), given)


class Statements(unittest.TestCase):
    def test_nothing(self):
        self.assertEqual(statements(()), [])

    def test_simple_ones(self):
        for text, tree in SIMPLE:
            self.assertEqual(statements((tree,)), [tree])
        everyone = tuple(tree for text, tree in SIMPLE)
        self.assertEqual(statements(everyone), list(everyone))

    def test_each_block(self):
        for text, tree in BLOCKS:
            self.assertEqual([text_of((each,)).split("\n")[0] for each in statements((tree,))], first_rows((tree,)))

    def test_both_arms_of_an_if(self):
        tree = tree_of("if a:\n  b\n  c\nelse:\n  d\ne")
        told = statements(tree)
        self.assertEqual(told[0], tree[0])
        self.assertEqual([each[1][1] for each in told[1:]], ["b", "c", "d", "e"])

    def test_all_arms_of_a_try(self):
        text = ("try:\n  a\n  b\nexcept A:\n  c\nexcept B as x:\n  d\n  e\nelse:\n  f\nfinally:\n  g\nh")
        tree = tree_of(text)
        told = statements(tree)
        self.assertEqual(told[0], tree[0])
        self.assertEqual([each[1][1] for each in told[1:]], ["a", "b", "c", "d", "e", "f", "g", "h"])

    def test_in_deeds_and_kinds_and_loops(self):
        text = ("deed f(a):\n  b\n  deed g():\n    c\n  d\nkind K():\n  deed h():\n    while e:\n      for i in j:\n"
                "        k\nl")
        tree = tree_of(text)
        told = statements(tree)
        self.assertEqual([text_of((each,)).split("\n")[0] for each in told],
                         ["deed f(a):", "b", "deed g():", "c", "d", "kind K():", "deed h():", "while e:", "for i in j:",
                          "k", "l"])
        self.assertEqual(told[0], tree[0])

    def test_many_programs(self):
        chance = random.Random(6)
        for _ in range(200):
            tree = made_rows(chance, 4, 4)
            told = statements(tree)
            self.assertEqual([text_of((each,)).split("\n")[0] for each in told], first_rows(tree))

    def test_like_statements_are_told_each_time(self):
        self.assertEqual(statements((PASS, PASS, PASS)), [PASS, PASS, PASS])

    def test_six_hundred_in_ten_blocks(self):
        rows = ["  " * at + "if a:" for at in range(10)] + ["  " * 10 + "b"] * 590
        self.assertEqual(len(statements(tree_of("\n".join(rows)))), 600)

    def test_the_list_is_the_askers_own(self):
        tree = tree_of("a\nif b:\n  c")
        first = statements(tree)
        self.assertIs(type(first), list)
        first.clear()
        self.assertEqual(len(statements(tree)), 3)
        self.assertIsNot(statements(tree), statements(tree))


class OwnNames(unittest.TestCase):
    def test_nothing(self):
        self.assertEqual(own_names((), ()), [])

    def test_each_form_that_gives_a_name(self):
        self.assertEqual(own("x = 1"), ["x"])
        self.assertEqual(own("let go x"), ["x"])
        self.assertEqual(own("for x in y:\n  pass"), ["x"])
        self.assertEqual(own("deed x():\n  pass"), ["x"])
        self.assertEqual(own("kind x():\n  pass"), ["x"])
        self.assertEqual(own("try:\n  pass\nexcept A as x:\n  pass"), ["x"])
        self.assertEqual(own("try:\n  pass\nexcept A as x:\n  pass\nexcept B as y:\n  pass"), ["x", "y"])

    def test_forms_that_give_none(self):
        for row in ("x", "say x", "x.y = 1", "x[y] = z", "let go x.y", "let go x[y]", "give x", "hand x", "raise x",
                    "raise x from y", "raise", "sweep", "pass", "x(y)", "outer x"):
            self.assertEqual(own(row), [])
        self.assertEqual(own("if x:\n  pass\nelse:\n  pass"), [])
        self.assertEqual(own("while x:\n  pass"), [])
        self.assertEqual(own("try:\n  pass\nexcept A:\n  pass\nelse:\n  pass\nfinally:\n  pass"), [])
        self.assertEqual(own("kind x(A, B):\n  pass"), ["x"])

    def test_parameters(self):
        self.assertEqual(own("pass", "b", "a"), ["a", "b"])
        self.assertEqual(own("a = 1", "b", "a"), ["a", "b"])
        self.assertEqual(own_names((PASS,), ["b", "a"]), ["a", "b"])

    def test_the_list_rises_and_has_each_name_once(self):
        self.assertEqual(own("b = 1\na = 1\nC = 1\nb = 2\na9 = 1\nlet go a\nB = 1", "z", "a"),
                         ["B", "C", "a", "a9", "b", "z"])

    def test_in_all_blocks(self):
        text = ("if a:\n  b = 1\nelse:\n  c = 1\nwhile a:\n  d = 1\nfor e in a:\n  f = 1\ntry:\n  g = 1\nexcept A as h:\n"
                "  i = 1\nelse:\n  j = 1\nfinally:\n  if a:\n    while b:\n      k = 1")
        self.assertEqual(own(text), list("bcdefghijk"))

    def test_not_in_deeds_and_kinds_within(self):
        self.assertEqual(own("deed f(a):\n  b = 1\n  for c in d:\n    pass\ne = 1"), ["e", "f"])
        self.assertEqual(own("kind K(A):\n  b = 1\n  deed f(c):\n    d = 1"), ["K"])
        self.assertEqual(own("if a:\n  deed f(b):\n    c = 1\n  kind K():\n    d = 1"), ["K", "f"])

    def test_outer_takes_a_name_away(self):
        self.assertEqual(own("outer x\nx = 1\ny = 1"), ["y"])
        self.assertEqual(own("x = 1\ny = 1\nouter x"), ["y"])
        self.assertEqual(own("if a:\n  while b:\n    outer x\nx = 1\ny = 1"), ["y"])
        self.assertEqual(own("try:\n  x = 1\nexcept A as y:\n  pass\nfinally:\n  outer y"), ["x"])
        self.assertEqual(own("outer f\ndeed f():\n  pass\nouter K\nkind K():\n  pass\nouter i\nfor i in j:\n  pass"), [])
        self.assertEqual(own("outer x\nlet go x"), [])

    def test_outer_takes_a_parameter_away(self):
        self.assertEqual(own("outer a", "a", "b"), ["b"])
        self.assertEqual(own("a = 1\nouter a", "a", "b"), ["b"])

    def test_an_outer_within_another_deed_or_kind_counts_there_alone(self):
        self.assertEqual(own("x = 1\ndeed f():\n  outer x\n  x = 2"), ["f", "x"])
        self.assertEqual(own("x = 1\nkind K():\n  outer x", "a"), ["K", "a", "x"])

    def test_what_is_handed_in_stays_and_what_is_told_is_the_askers_own(self):
        given = ["b", "a", "c"]
        rows = tree_of("x = 1\nouter c")
        told = own_names(rows, given)
        self.assertEqual(told, ["a", "b", "x"])
        self.assertIs(type(told), list)
        told.append("y")
        self.assertEqual(given, ["b", "a", "c"])
        self.assertEqual(own_names(rows, given), ["a", "b", "x"])


if __name__ == "__main__":
    unittest.main()
