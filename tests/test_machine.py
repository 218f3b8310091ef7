"""Promise [25]: what ran and met tell of codes. Each test of [12] to [23] has ran tell what walked does, too."""

import copy
import unittest

from programs import Programs, unindented
from snakehall.machine import met, ran
from snakehall.making import made
from snakehall.trees import tree_of


def pairs(text, given=(), most=3000):
    return met(made(tree_of(unindented(text)))[0], list(given), most)


class Met(unittest.TestCase):
    def test_without_steps(self):
        self.assertEqual(pairs(""), [])
        self.assertEqual(pairs("pass", most=0), [])

    def test_deeds_within_deeds(self):
        self.assertEqual(pairs("""
            deed f():
              deed g():
                pass
              g()
              pass
            f()
            pass
        """), [(0, 0), (0, 5), (1, 1), (1, 3), (2, 2), (1, 4), (0, 6)])

    def test_begins_and_ends(self):
        self.assertEqual(pairs("""
            kind K():
              deed begin(self):
                pass
              deed end(self):
                pass
            K()
        """), [(0, 0), (0, 1), (0, 3), (0, 5), (1, 2), (2, 4)])

    def test_loops(self):
        self.assertEqual(pairs("""
            deed l():
              try:
                hand 1
              finally:
                pass
            for x in l():
              break
            pull(l())
        """), [(0, 0), (0, 4), (0, 4), (1, 1), (1, 2), (0, 5), (1, 3), (0, 6), (1, 1), (1, 2), (1, 3)])

    def test_rows_of_kinds(self):
        self.assertEqual(pairs("""
            deed f():
              kind K():
                pass
                x = g()
                deed h():
                  pass
            deed g():
              give 1
            f()
        """), [(0, 0), (0, 6), (0, 8), (1, 1), (1, 2), (1, 3), (2 + 1, 7), (1, 4)])

    def test_most_and_given(self):
        text = "a = ask\nwhile a:\n  a = (a - 1)"
        self.assertEqual(pairs(text, (2,)), [(0, 0), (0, 1), (0, 2), (0, 1), (0, 2), (0, 1)])
        self.assertEqual(pairs(text, (2,), 3), [(0, 0), (0, 1), (0, 2)])
        self.assertEqual(pairs(text), [(0, 0), (0, 1)])

    def test_kinds_of_values(self):
        for pair in pairs("deed f():\n  pass\nf()"):
            self.assertEqual((type(pair), [type(each) for each in pair]), (tuple, [int, int]))

    def test_the_askers_own(self):
        codes = made(tree_of("say 1\nsay ask"))[0]
        given = [5]
        first = met(codes, given, 10)
        first.clear()
        self.assertEqual(met(codes, given, 10), [(0, 0), (0, 1)])
        self.assertEqual(given, [5])


class Ran(Programs):
    def test_codes_and_words_stay(self):
        codes = made(tree_of('kind K():\n  deed f(self):\n    give [ask]\nsay K().f()[0]\nsay ask'))[0]
        kept = copy.deepcopy(codes)
        given = ["a", 2]
        first = ran(codes, given, 100)
        self.assertEqual(first[0], ["a", "2"])
        self.assertEqual((codes, given), (kept, ["a", 2]))
        self.assertEqual(ran(codes, given, 100), first)

    def test_codes_are_those_of_the_tree_alone(self):
        one = made(tree_of("say 1"))[0]
        other = made(tree_of("say 2"))[0]
        self.assertEqual((ran(one, [], 5)[0], ran(other, [], 5)[0], ran(one, [], 5)[0]), (["1"], ["2"], ["1"]))

    def test_codes_that_are_changed_while_told_of(self):
        codes = made(tree_of("say 1"))[0]
        told = ran(codes, [], 5)
        codes.clear()
        self.assertEqual(told, (["1"], ("ended",), [(0, 1, 0)], []))


if __name__ == "__main__":
    unittest.main()
