"""Promise [24]: rows that are made of a tree."""

import copy
import unittest

from draws import drawn
from samples import BLOCKS, SIMPLE
from snakehall.making import made
from snakehall.naming import own_names, statements
from snakehall.trees import tree_of

TEXT = """deed f(b, a):
  x = 1
  deed g():
    outer x
    x = 2
    hand x
    kind K():
      deed h(self):
        give super.h()
  for i in g():
    pass
  give g
kind L(Error):
  y = 1
  deed end(me):
    try:
      me.z = 5
    except Error as e:
      raise
    finally:
      hand 1
while yes:
  deed last():
    pass
"""


def plain(value):
    """Whether a value is made of numbers, texts, True, False, None and tuples alone."""
    if type(value) is tuple:
        return all(plain(each) for each in value)
    return value is None or type(value) in (int, str, bool)


class Made(unittest.TestCase):
    def test_a_tree_of_no_statements(self):
        codes, paper = made(())
        self.assertEqual((len(codes), paper), (1, {}))
        title, given, names, rows, hands = codes[0]
        self.assertEqual((title, given, names, hands), ("", (), (), False))
        self.assertIs(type(rows), tuple)

    def test_codes_in_the_order_of_the_deeds_numbers(self):
        codes, paper = made(tree_of(TEXT))
        self.assertEqual([code[0] for code in codes], ["", "f", "g", "h", "end", "last"])
        self.assertEqual([code[1] for code in codes], [(), ("b", "a"), (), ("self",), ("me",), ()])
        self.assertEqual([code[2] for code in codes], [
            (), ("a", "b", "g", "i", "x"), ("K",), ("self",), ("e", "me"), (),
        ])
        self.assertEqual([code[4] for code in codes], [False, False, True, False, True, False])

    def test_the_paper(self):
        tree = tree_of(TEXT)
        codes, paper = made(tree)
        self.assertEqual(list(paper), list(range(len(statements(tree)))))
        self.assertEqual([paper[number][0] for number in paper], [
            0, 1, 1, 2, 2, 2, 2, 2, 3, 1, 1, 1, 0, 0, 0, 4, 4, 4, 4, 0, 0, 5,
        ])

    def check(self, tree):
        codes, paper = made(tree)
        all_statements = statements(tree)
        deeds = [each for each in all_statements if each[0] == "deed"]
        self.assertIs(type(codes), list)
        self.assertIs(type(paper), dict)
        self.assertEqual([code[:3] for code in codes[1:]],
                         [(each[1], each[2], tuple(own_names(each[3], each[2]))) for each in deeds])
        self.assertEqual(codes[0][:3] + codes[0][4:], ("", (), (), False))
        for code in codes:
            self.assertEqual((type(code), len(code), type(code[3]), type(code[4])), (tuple, 5, tuple, bool))
            for row in code[3]:
                self.assertIs(type(row), tuple)
                self.assertIs(type(row[0]), str)
                self.assertTrue(plain(row))
        self.assertEqual(sorted(paper), list(range(len(all_statements))))
        self.assertEqual(len(set(paper.values())), len(paper))
        for code, row in paper.values():
            self.assertEqual((type(code), type(row)), (int, int))
            self.assertTrue(0 <= code < len(codes) and 0 <= row < len(codes[code][3]))

    def test_each_form(self):
        for text, statement in SIMPLE + BLOCKS:
            self.check((statement,))
            self.check((statement, statement))
            self.check((("deed", "f", ("a",), (statement, ("pass",))),))

    def test_draws(self):
        for seed in range(7000, 7200):
            self.check(drawn(seed))

    def test_a_deed_in_a_kinds_rows_and_its_hands(self):
        codes, paper = made(tree_of("kind K():\n  deed f():\n    deed g():\n      hand 1\n  deed h():\n    while yes:\n      hand 2"))
        self.assertEqual([(code[0], code[4]) for code in codes], [("", False), ("f", False), ("g", True), ("h", True)])

    def test_made_again_the_same(self):
        tree = tree_of(TEXT)
        kept = copy.deepcopy(tree)
        first = made(tree)
        second = made(tree)
        self.assertEqual(first, second)
        self.assertIsNot(first[0], second[0])
        self.assertIsNot(first[1], second[1])
        first[0].clear()
        first[1].clear()
        self.assertEqual(made(tree), second)
        self.assertEqual(tree, kept)

    def test_many_statements(self):
        tree = tuple(("say", ("number", at)) for at in range(600))
        codes, paper = made(tree)
        self.assertEqual(sorted(paper), list(range(600)))
        self.assertEqual(len(set(paper.values())), 600)


if __name__ == "__main__":
    unittest.main()
