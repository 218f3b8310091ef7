"""Promise [8]: the order of elders."""

import copy
import random
import unittest

from snakehall.elders import order_of


def python_order(elders, title):
    """The order in which Python itself looks through classes with these bases, None where it refuses them."""
    made = {}

    def class_of(each):
        if each not in made:
            made[each] = type(each, tuple(class_of(elder) for elder in elders[each]) or (object,), {})
        return made[each]

    try:
        return [each.__name__ for each in class_of(title).__mro__[:-1]]
    except TypeError:
        return None


class Orders(unittest.TestCase):
    def test_of_one(self):
        self.assertEqual(order_of({"A": []}, "A"), ["A"])
        self.assertEqual(order_of({"A": [], "B": ["A"]}, "A"), ["A"])

    def test_of_chains(self):
        elders = {"A": [], "B": ["A"], "C": ["B"], "D": ["C"]}
        self.assertEqual(order_of(elders, "D"), ["D", "C", "B", "A"])
        self.assertEqual(order_of(elders, "B"), ["B", "A"])

    def test_of_several_elders(self):
        elders = {"A": [], "B": [], "C": [], "D": ["B", "A", "C"]}
        self.assertEqual(order_of(elders, "D"), ["D", "B", "A", "C"])

    def test_of_several_chains(self):
        elders = {"A": [], "B": ["A"], "X": [], "Y": ["X"], "Z": ["Y", "B"]}
        self.assertEqual(order_of(elders, "Z"), ["Z", "Y", "X", "B", "A"])

    def test_of_elders_that_share_an_elder(self):
        elders = {"A": [], "B": ["A"], "C": ["A"], "D": ["B", "C"]}
        self.assertEqual(order_of(elders, "D"), ["D", "B", "C", "A"])
        elders = {"A": [], "B": ["A"], "C": ["A"], "D": ["C", "B"]}
        self.assertEqual(order_of(elders, "D"), ["D", "C", "B", "A"])

    def test_the_first_list_goes_on_ahead_of_the_others(self):
        elders = {
            "O": [], "A": ["O"], "B": ["O"], "C": ["O"], "D": ["O"], "E": ["O"], "K1": ["A", "B", "C"],
            "K2": ["D", "B", "E"], "K3": ["D", "A"], "Z": ["K1", "K2", "K3"],
        }
        self.assertEqual(order_of(elders, "Z"), ["Z", "K1", "K2", "K3", "D", "A", "B", "C", "E", "O"])

    def test_the_list_of_the_elders_counts(self):
        # The orders of B and C alone would let C come first or last; the elders' own list puts B ahead.
        elders = {"A": [], "B": ["A"], "C": [], "D": ["B", "C"], "E": ["C", "B"]}
        self.assertEqual(order_of(elders, "D"), ["D", "B", "A", "C"])
        self.assertEqual(order_of(elders, "E"), ["E", "C", "B", "A"])

    def test_an_elder_named_behind_one_that_has_it(self):
        elders = {"A": [], "B": ["A"], "C": ["B", "A"]}
        self.assertEqual(order_of(elders, "C"), ["C", "B", "A"])

    def test_titles_may_be_of_any_letters(self):
        self.assertEqual(order_of({"": [], "a b": [""]}, "a b"), ["a b", ""])

    def test_a_long_chain(self):
        elders = {"0": []}
        for at in range(1, 1500):
            elders[str(at)] = [str(at - 1)]
        self.assertEqual(order_of(elders, "1499"), [str(at) for at in reversed(range(1500))])

    def test_many_elders(self):
        elders = {str(at): [] for at in range(200)}
        elders["all"] = [str(at) for at in range(200)]
        self.assertEqual(order_of(elders, "all"), ["all"] + elders["all"])

    def test_many_ways_to_the_same_elder(self):
        elders = {"A0": [], "B0": []}
        for at in range(1, 40):
            elders["A" + str(at)] = elders["B" + str(at)] = ["A" + str(at - 1), "B" + str(at - 1)]
        told = order_of(elders, "A39")
        self.assertEqual(told, ["A39"] + [side + str(at) for at in reversed(range(39)) for side in "AB"])


class NoOrders(unittest.TestCase):
    def test_no_title_can_be_taken(self):
        self.assertIsNone(order_of({"A": [], "B": ["A"], "C": ["A", "B"]}, "C"))
        elders = {"X": [], "Y": [], "A": ["X", "Y"], "B": ["Y", "X"], "C": ["A", "B"]}
        self.assertIsNone(order_of(elders, "C"))
        self.assertEqual(order_of(elders, "A"), ["A", "X", "Y"])
        self.assertEqual(order_of(elders, "B"), ["B", "Y", "X"])

    def test_two_elders_alike(self):
        self.assertIsNone(order_of({"A": [], "B": ["A", "A"]}, "B"))
        self.assertIsNone(order_of({"A": [], "B": [], "C": ["A", "B", "A"]}, "C"))

    def test_an_elder_without_an_order(self):
        elders = {"A": [], "B": ["A", "A"], "C": ["B"], "D": ["A", "C"], "E": ["A"]}
        for title in "BCD":
            self.assertIsNone(order_of(elders, title))
        self.assertEqual(order_of(elders, "E"), ["E", "A"])

    def test_what_is_no_elder_counts_for_nothing(self):
        elders = {"A": [], "B": ["A", "A"], "C": ["A"]}
        self.assertEqual(order_of(elders, "C"), ["C", "A"])


class NothingIsChanged(unittest.TestCase):
    def test_the_dict_and_its_lists(self):
        for elders in (
            {"A": [], "B": ["A"], "C": ["A"], "D": ["B", "C"]},
            {"D": ["A", "B"], "A": [], "B": ["A"]},
            {"A": [], "D": ["A", "A"]},
        ):
            kept = copy.deepcopy(elders)
            order_of(elders, "D")
            self.assertEqual(elders, kept)
            self.assertEqual(list(elders), list(kept))

    def test_what_is_told_is_the_askers_own(self):
        elders = {"A": [], "B": ["A"]}
        for title in ("A", "B"):
            told = order_of(elders, title)
            self.assertIs(type(told), list)
            told.append("X")
            self.assertEqual(elders, {"A": [], "B": ["A"]})
            self.assertNotIn("X", order_of(elders, title))


class ManyOrders(unittest.TestCase):
    def test_as_python_orders_its_classes(self):
        chance = random.Random(8)
        seen = {True: 0, False: 0}
        for _ in range(2000):
            titles = ["K" + str(at) for at in range(chance.randint(1, 9))]
            elders = {}
            for at, title in enumerate(titles):
                ahead = titles[:at]
                elders[title] = chance.sample(ahead, min(len(ahead), chance.choice((0, 1, 1, 2, 2, 3))))
                if ahead and chance.random() < 0.02:
                    elders[title] = [ahead[0], ahead[0]]
            shuffled = {title: elders[title] for title in chance.sample(titles, len(titles))}
            for title in titles:
                expected = python_order(elders, title)
                self.assertEqual(order_of(shuffled, title), expected)
                seen[expected is None] += 1
        self.assertGreater(min(seen.values()), 500)


if __name__ == "__main__":
    unittest.main()
