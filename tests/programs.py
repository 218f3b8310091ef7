"""Runs programs by the walker, the machine and the other telling alike, for the tests."""

import copy
import sys
import unittest

from snakehall.machine import ran
from snakehall.making import made
from snakehall.naming import looked
from snakehall.trees import tree_of
from snakehall.walking import walked
import telling

# The other telling goes through programs by calls of Python's.
sys.setrecursionlimit(20000)


class Result:
    """What was told of a program."""

    def __init__(self, told):
        self.whole = told
        self.said, self.end, self.steps, self.ends = told
        self.numbers = [step[0] for step in self.steps]
        self.depths = [step[1] for step in self.steps]
        self.things = [step[2] for step in self.steps]

    def at(self, number):
        """The list of the pairs of calls and things at each step of a statement."""
        return [step[1:] for step in self.steps if step[0] == number]


class Programs(unittest.TestCase):
    maxDiff = None

    def run_tree(self, tree, given=(), most=3000):
        codes, paper = made(tree)
        kept = copy.deepcopy((tree, codes))
        given = list(given)
        first = walked(tree, given, most)
        self.assertEqual(ran(codes, given, most), first)
        self.assertEqual(telling.told(tree, given, most), first)
        self.assertEqual((tree, codes), kept)
        return Result(first)

    def run_text(self, text, given=(), most=3000):
        """Runs a text, whose rows may stand further in as a whole."""
        tree = tree_of(unindented(text))
        self.assertIs(looked(tree), True)
        return self.run_tree(tree, given, most)

    def says(self, text, *said, given=()):
        """A text that says all this and ends."""
        result = self.run_text(text, given)
        self.assertEqual(result.said, list(said))
        self.assertEqual(result.end, ("ended",))
        return result

    def fails(self, text, title, words="", causes=(), said=None):
        """A text that ends with an error."""
        result = self.run_text(text)
        self.assertEqual(result.end, ("error", title, words, list(causes)))
        if said is not None:
            self.assertEqual(result.said, list(said))
        return result

    def shows(self, expr, text, ahead=""):
        """An expression whose value is shown so."""
        self.says(unindented(ahead) + "\nsay " + expr, text)

    def expr_fails(self, expr, title, ahead=""):
        """An expression of which an error comes by itself, with no words."""
        self.fails(unindented(ahead) + "\nsay " + expr, title, said=())


def unindented(text):
    """The rows without the blanks that all of them have ahead."""
    rows = [row for row in text.split("\n") if row.strip()]
    blanks = min([len(row) - len(row.lstrip()) for row in rows], default=0)
    return "\n".join(row[blanks:] for row in rows)
