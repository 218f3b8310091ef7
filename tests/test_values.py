"""Promises [12] and [13]: what is so, what is the same, and how values are shown."""

import itertools
import unittest

from snakehall.hall import Hall, Held
from snakehall.values import DEED, KIND, Named, is_so, same, shown

FORMS = ("list", "table", "deed", "kind", "being", "tied", "loop", "scope")
HALL = Hall(None)
THINGS = tuple(HALL.make(form, None) for form in FORMS + FORMS)
# All unlike one another.
VALUES = (
    0, 1, -1, 2, 10 ** 30, -10 ** 30, "", "0", "1", "a", "A", " ", "yes", "no", "none", "True", "None", True, False,
    None,
) + THINGS


def copied(value):
    """A value that is like another one, but not the very same object where Python can tell them apart."""
    if type(value) is str:
        return "".join(list(value))
    if type(value) is int:
        return int(str(value))
    return value


class IsSo(unittest.TestCase):
    def test_what_is_not_so(self):
        for value in (False, None, 0, ""):
            self.assertIs(is_so(value), False)

    def test_what_is_so(self):
        for value in (True, 1, -1, 2, 10 ** 30, "0", " ", "no", "none", "False", "a"):
            self.assertIs(is_so(value), True)

    def test_things_are_so(self):
        for thing in THINGS:
            self.assertIs(is_so(thing), True)

    def test_things_without_parts_and_gone_ones_are_so(self):
        hall = Hall(None)
        thing = hall.make("list", None)
        hall.hold(thing)
        self.assertIs(is_so(thing), True)
        hall.put(thing, 0, None)
        self.assertIs(is_so(thing), True)
        hall.loose(thing)
        self.assertIs(is_so(thing), True)


class Same(unittest.TestCase):
    def test_each_is_the_same_as_itself(self):
        for value in VALUES:
            self.assertIs(same(value, copied(value)), True)

    def test_no_two_others_are_the_same(self):
        for one, other in itertools.permutations(VALUES, 2):
            self.assertIs(same(one, other), False, (one, other))

    def test_numbers_are_no_truths(self):
        for one, other in ((1, True), (0, False), ("", False), ("", None), (0, None), (False, None), (0, ""), ("1", 1)):
            self.assertIs(same(one, other), False)
            self.assertIs(same(other, one), False)

    def test_things_that_look_alike(self):
        hall = Hall(None)
        one, other = hall.make("list", None), hall.make("list", None)
        for thing in (one, other):
            hall.put(thing, 0, 7)
        self.assertIs(same(one, other), False)
        self.assertIs(same(one, one), True)
        # Two halls give the same numbers.
        self.assertIs(same(one, Hall(None).make("list", None)), False)

    def test_long_texts_and_large_numbers(self):
        self.assertIs(same("x" * 400, "x" * 399 + "x"), True)
        self.assertIs(same("x" * 400, "x" * 399), False)
        self.assertIs(same(10 ** 30, 10 ** 30 + 1), False)


class Shown(unittest.TestCase):
    def test_numbers(self):
        for value, text in ((0, "0"), (7, "7"), (-1, "-1"), (-1050, "-1050"), (999999999, "999999999"),
                            (10 ** 30, "1" + "0" * 30), (-10 ** 30, "-1" + "0" * 30), (10 ** 60, "1" + "0" * 60),
                            (123456789012345678901234567890, "123456789012345678901234567890")):
            self.assertEqual(shown(value), text)
            self.assertIs(type(shown(value)), str)

    def test_texts(self):
        for text in ("", " ", "a", "yes", "  a  b ", "it's", "0", "\\", "x" * 400, "a\nb"):
            self.assertEqual(shown(text), text)

    def test_words(self):
        self.assertEqual((shown(True), shown(False), shown(None)), ("yes", "no", "none"))

    def test_numbers_are_no_words(self):
        self.assertEqual((shown(1), shown(0)), ("1", "0"))

    def test_lists_and_tables(self):
        hall = Hall(None)
        for form in ("list", "table"):
            thing = hall.make(form, None)
            self.assertEqual(shown(thing), form + " 0")
            for many in range(1, 13):
                hall.put(thing, many - 1, thing)
                self.assertEqual(shown(thing), form + " " + str(many))
            hall.take(thing, 11)
            self.assertEqual(shown(thing), form + " 11")
        hall.put(thing, "k", 1)
        self.assertEqual(shown(thing), "table 12")

    def test_things_with_a_name_of_their_own(self):
        hall = Hall(None)
        for form in ("deed", "kind", "loop"):
            for name in ("f", "Kind9", "x" * 12):
                thing = hall.make(form, Named(name))
                self.assertEqual(shown(thing), form + " " + name)
                hall.put(thing, "k", 1)
                self.assertEqual(shown(thing), form + " " + name)

    def test_a_loop_whose_own_tells_what_it_holds(self):
        class Waiting(Held):
            def __init__(self, title, some):
                Held.__init__(self, some)
                self.title = title

        self.assertEqual(shown(Hall(None).make("loop", Waiting("each", [1]))), "loop each")

    def test_beings_have_the_name_of_their_kind(self):
        hall = Hall(None)
        kind = hall.make("kind", Named("K"))
        being = hall.make("being", None)
        hall.put(being, KIND, kind)
        hall.put(being, "words", "w")
        self.assertEqual(shown(being), "being K")

    def test_tied_things_have_the_name_of_their_deed(self):
        hall = Hall(None)
        kind, deed = hall.make("kind", Named("K")), hall.make("deed", Named("f"))
        being, tied = hall.make("being", None), hall.make("tied", None)
        hall.put(being, KIND, kind)
        hall.put(tied, KIND, being)
        hall.put(tied, DEED, deed)
        self.assertEqual(shown(tied), "tied f")

    def test_nothing_is_changed(self):
        hall = Hall(None)
        thing = hall.make("list", None)
        hall.put(thing, 0, thing)
        shown(thing), is_so(thing), same(thing, thing)
        self.assertEqual((thing.count, thing.parts, hall.things(), hall.gone()), (1, {0: thing}, [1], []))


if __name__ == "__main__":
    unittest.main()
