"""Promise [11]: what can be come to, and sweeps."""

import random
import unittest

from snakehall.hall import Hall, Held
from snakehall.sweeping import Sweeps, reached, swept
from test_hall import PLAIN, Model, held, put_under, with_noting

METHODS = "lay plan last asked told".split()


class Around:
    """Tells what is held around, and notes how often it was asked."""

    def __init__(self, *values):
        self.values = list(values)
        self.times = 0

    def held(self):
        self.times += 1
        return list(self.values)


def with_sweeps():
    ender = Sweeps()
    hall = Hall(ender)
    ender.lay(hall)
    return hall, ender


def made(hall, many):
    """So many new things that nobody holds."""
    return [hall.make("thing", None) for _ in range(many)]


def ring(hall, things):
    """Each thing holds the next one, the last one the first."""
    for one, other in zip(things, things[1:] + things[:1]):
        hall.put(one, "next", other)


def state(hall):
    """All that can be seen of a hall that has no ender."""
    return (hall.things(), hall.gone(), [(each.number, each.count, list(each.parts.items()), each.form, each.own)
                                         for each in hall.all_there()])


class Reached(unittest.TestCase):
    def test_from_nothing(self):
        hall = Hall(None)
        made(hall, 3)
        self.assertEqual(reached(hall, []), [])

    def test_from_plain_values(self):
        hall = Hall(None)
        made(hall, 3)
        self.assertEqual(reached(hall, list(PLAIN)), [])

    def test_from_things(self):
        hall = Hall(None)
        a, b, c = made(hall, 3)
        self.assertEqual(reached(hall, [a]), [1])
        self.assertEqual(reached(hall, [c, a]), [1, 3])
        self.assertEqual(reached(hall, [b, 7, b, "a", b]), [2])

    def test_through_parts(self):
        hall = Hall(None)
        a, b, c, d = made(hall, 4)
        hall.put(d, "k", b)
        hall.put(d, "l", 5)
        hall.put(b, 0, a)
        self.assertEqual(reached(hall, [d]), [1, 2, 4])
        self.assertEqual(reached(hall, [b]), [1, 2])
        self.assertEqual(reached(hall, [a, c]), [1, 3])

    def test_however_far(self):
        hall = Hall(None)
        things = made(hall, 5000)
        for one, other in zip(things, things[1:]):
            hall.put(one, "next", other)
        self.assertEqual(reached(hall, [things[0]]), list(range(1, 5001)))
        self.assertEqual(reached(hall, [things[4000]]), list(range(4001, 5001)))

    def test_through_rings(self):
        hall = Hall(None)
        a, b, c, d = made(hall, 4)
        ring(hall, [c, a, b])
        hall.put(d, "self", d)
        for each in (a, b, c):
            self.assertEqual(reached(hall, [each]), [1, 2, 3])
        self.assertEqual(reached(hall, [d]), [4])
        hall.put(b, "d", d)
        self.assertEqual(reached(hall, [c]), [1, 2, 3, 4])

    def test_through_a_helds_list(self):
        hall = Hall(None)
        a, b, c = made(hall, 3)
        own = Held([1, c, "a", None])
        d = hall.make("loop", own)
        hall.put(c, "k", a)
        self.assertEqual(reached(hall, [d]), [1, 3, 4])
        own.has.append(b)
        self.assertEqual(reached(hall, [d]), [1, 2, 3, 4])
        hall.put(b, "k", d)
        self.assertEqual(reached(hall, [b]), [1, 2, 3, 4])

    def test_through_a_helds_list_by_what_held_tells(self):
        class Other(Held):
            def held(self):
                return [hall.all_there()[0]]

        hall = Hall(None)
        a, b = made(hall, 2)
        c = hall.make("loop", Other([b]))
        self.assertEqual(reached(hall, [c]), [1, 3])

    def test_not_through_other_owns(self):
        hall = Hall(None)
        a, = made(hall, 1)
        for own in (a, [a], (a,), {"k": a}, Around(a), "own", 3):
            thing = hall.make("a", own)
            self.assertEqual(reached(hall, [thing]), [thing.number])

    def test_the_list_rises_and_has_each_number_once(self):
        hall = Hall(None)
        things = made(hall, 6)
        for one in things:
            for other in things:
                hall.put(one, other.number, other)
        self.assertEqual(reached(hall, [things[3], things[1], things[3]]), [1, 2, 3, 4, 5, 6])

    def test_what_is_gone_can_not_be_come_to(self):
        hall = Hall(None)
        a, b = held(hall, 2)
        hall.make("loop", Held([a, b]))
        hall.loose(a)
        self.assertEqual(reached(hall, hall.all_there()), [2, 3])
        self.assertEqual(reached(hall, [a]), [])

    def test_the_hall_and_the_list_stay_as_they_were(self):
        hall = Hall(None)
        a, b, c = made(hall, 3)
        ring(hall, [a, b])
        roots = [b, 1, c]
        before = state(hall)
        told = reached(hall, roots)
        self.assertEqual(state(hall), before)
        self.assertEqual(roots, [b, 1, c])
        self.assertIs(type(told), list)
        told.clear()
        self.assertEqual(reached(hall, roots), [1, 2, 3])


class Swept(unittest.TestCase):
    def test_an_empty_hall(self):
        self.assertEqual(swept(Hall(None), Around()), [])

    def test_rings_of_all_sizes(self):
        for many in (1, 2, 3, 50):
            hall, ender = with_noting()
            things = made(hall, many)
            ring(hall, things)
            self.assertEqual(swept(hall, Around()), list(range(1, many + 1)))
            self.assertEqual((hall.things(), hall.gone()), ([], list(range(1, many + 1))))
            self.assertEqual([each.parts for each in things], [{}] * many)
            self.assertEqual(ender.numbers(), list(range(1, many + 1)))
            self.assertEqual(swept(hall, Around()), [])

    def test_a_large_ring(self):
        hall = Hall(None)
        things = made(hall, 5000)
        ring(hall, things)
        self.assertEqual(swept(hall, Around(things[7])), [])
        self.assertEqual(swept(hall, Around()), list(range(1, 5001)))

    def test_a_ring_that_hangs_on_something_held(self):
        hall, ender = with_noting()
        root, a, b, c, d = made(hall, 5)
        ring(hall, [a, b])
        ring(hall, [c, d])
        hall.put(root, "k", b)
        before = state(hall)
        self.assertEqual(swept(hall, Around(root, c)), [])
        self.assertEqual((state(hall), ender.seen), (before, []))
        self.assertEqual(swept(hall, Around(root)), [4, 5])
        self.assertEqual(hall.things(), [1, 2, 3])
        hall.take(root, "k")
        self.assertEqual(swept(hall, Around(root)), [2, 3])
        self.assertEqual(hall.gone(), [4, 5, 2, 3])

    def test_a_thing_that_hangs_on_a_ring(self):
        hall = Hall(None)
        a, b, c = made(hall, 3)
        ring(hall, [b, c])
        hall.put(c, "k", a)
        self.assertEqual(swept(hall, Around()), [1, 2, 3])
        self.assertEqual(hall.gone(), [1, 2, 3])

    def test_a_thing_under_a_ring_that_is_held_around(self):
        hall = Hall(None)
        a, b, c, d = made(hall, 4)
        ring(hall, [b, c])
        hall.put(c, "k", a)
        hall.put(a, "k", d)
        hall.hold(a)
        self.assertEqual(swept(hall, Around(a)), [2, 3])
        self.assertEqual((hall.things(), a.count, d.count), ([1, 4], 1, 1))

    def test_what_was_made_and_never_held(self):
        hall, ender = with_noting()
        made(hall, 3)
        self.assertEqual(swept(hall, Around(hall.all_there()[1])), [1, 3])
        self.assertEqual((hall.gone(), ender.numbers()), ([1, 3], [1, 3]))

    def test_what_is_held_but_not_around_goes_too(self):
        hall = Hall(None)
        a, b = held(hall, 2)
        self.assertEqual(swept(hall, Around(b)), [1])
        self.assertEqual(hall.things(), [2])

    def test_through_a_helds_list(self):
        hall = Hall(None)
        a, b = made(hall, 2)
        loop = hall.make("loop", Held([a, 4]))
        self.assertEqual(swept(hall, Around(loop)), [2])
        self.assertEqual(hall.things(), [1, 3])

    def test_an_around_may_be_a_held(self):
        hall = Hall(None)
        a, b = made(hall, 2)
        self.assertEqual(swept(hall, Held([b, 1, "t", None, True])), [1])

    def test_counts_of_what_stays(self):
        hall = Hall(None)
        keeper, a, b, kept = made(hall, 4)
        ring(hall, [a, b])
        hall.put(a, "k", kept)
        hall.put(b, "k", kept)
        hall.put(keeper, "k", kept)
        hall.put(a, "l", keeper)
        hall.hold(keeper)
        self.assertEqual(swept(hall, Around(keeper)), [2, 3])
        self.assertEqual((keeper.count, kept.count, hall.gone()), (1, 1, [2, 3]))

    def test_gone_by_numbers_ahead_of_what_goes_with_them(self):
        # What is none of them and comes to nought waits, by the order in which parts are loosed.
        hall, ender = with_noting()
        ring_one, ring_two, late, early, under = made(hall, 5)
        ring(hall, [ring_two, ring_one])
        root = hall.make("root", Held([late, early]))
        hall.put(ring_one, "k", late)
        hall.put(ring_two, "k", early)
        hall.put(late, "k", under)
        self.assertEqual(swept(hall, Around(root)), [1, 2])
        self.assertEqual(hall.gone(), [1, 2, 3, 4, 5])
        self.assertEqual(ender.numbers(), [1, 2, 3, 4, 5])
        self.assertEqual(hall.things(), [6])

    def test_all_parts_are_loosed_ahead_of_the_row(self):
        hall, ender = with_noting()
        one, two, kept, more = made(hall, 4)
        root = hall.make("root", Held([kept, more]))
        hall.put(one, "b", more)
        hall.put(one, "a", kept)
        hall.put(two, "k", kept)
        seen = []
        ender.deeds[kept.number] = lambda thing: seen.append((hall.gone(), dict(two.parts)))
        self.assertEqual(swept(hall, Around(root)), [1, 2])
        # The parts of one come ahead: more is at nought first; kept only when two has loosed it.
        self.assertEqual(hall.gone(), [1, 2, 4, 3])
        self.assertEqual(seen, [([1, 2, 4], {})])

    def test_parts_of_things_that_go_with_them_are_loosed_once(self):
        hall = Hall(None)
        a, b, c = made(hall, 3)
        ring(hall, [a, b, c])
        hall.put(a, "again", b)
        hall.put(b, "self", b)
        self.assertEqual(swept(hall, Around()), [1, 2, 3])
        self.assertEqual([each.count for each in (a, b, c)], [0, 0, 0])

    def test_around_is_asked_anew_behind_the_lasts(self):
        hall, ender = with_noting()
        a, b = made(hall, 2)
        around = Around()
        ender.deeds[2] = lambda thing: around.values.append(a)
        self.assertEqual(swept(hall, around), [2])
        self.assertEqual((around.times, hall.things(), a.count), (2, [1], 0))
        self.assertEqual(swept(hall, Around()), [1])
        self.assertEqual(ender.numbers(), [1, 2])

    def test_a_root_that_is_gone(self):
        hall = Hall(None)
        a, b = held(hall, 2)
        hall.loose(a)
        self.assertEqual(swept(hall, Around(a)), [2])
        self.assertEqual(hall.gone(), [1, 2])

    def test_the_list_is_the_askers_own(self):
        hall = Hall(None)
        made(hall, 2)
        told = swept(hall, Around())
        self.assertIs(type(told), list)
        told.append(9)
        self.assertEqual(hall.gone(), [1, 2])
        first, second = swept(hall, Around()), swept(hall, Around())
        self.assertIsNot(first, second)

    def test_what_around_tells_is_not_changed(self):
        hall = Hall(None)
        a, b, c = made(hall, 3)
        values = [a, 1]

        class Same:
            def held(self):
                return values

        self.assertEqual(swept(hall, Same()), [2, 3])
        self.assertEqual(values, [a, 1])


class SweptWithLasts(unittest.TestCase):
    def test_each_is_asked_once_by_numbers_with_one_hold_more(self):
        hall, ender = with_noting()
        a, b, c = made(hall, 3)
        ring(hall, [c, a])
        swept(hall, Around())
        self.assertEqual(ender.seen, [(1, 2, [1, 2, 3], []), (2, 1, [1, 2, 3], []), (3, 2, [1, 2, 3], [])])

    def test_all_have_their_hold_while_the_first_is_asked(self):
        hall, ender = with_noting()
        a, b = made(hall, 2)
        seen = []
        ender.deeds[1] = lambda thing: seen.append((a.count, b.count))
        ender.deeds[2] = lambda thing: seen.append((a.count, b.count))
        swept(hall, Around())
        self.assertEqual(seen, [(1, 1), (1, 1)])

    def test_not_asked_of_those_of_which_it_was(self):
        hall, ender = with_noting()
        a, b = held(hall, 2)
        ender.deeds[1] = hall.hold
        hall.loose(a)
        self.assertEqual(ender.numbers(), [1])
        self.assertEqual(swept(hall, Around()), [1, 2])
        self.assertEqual(ender.numbers(), [1, 2])

    def test_asked_once_even_where_they_stay(self):
        hall, ender = with_noting()
        keeper, a, b = made(hall, 3)
        ring(hall, [a, b])
        ender.deeds[2] = lambda thing: hall.put(keeper, "k", thing)
        self.assertEqual(swept(hall, Around(keeper)), [])
        self.assertEqual((ender.numbers(), a.count, b.count, hall.gone()), ([2, 3], 2, 1, []))
        hall.take(keeper, "k")
        self.assertEqual(swept(hall, Around(keeper)), [2, 3])
        self.assertEqual((ender.numbers(), hall.gone()), ([2, 3], [2, 3]))

    def test_held_again_but_not_to_be_come_to_it_is_gone(self):
        hall, ender = with_noting()
        a, = made(hall, 1)
        ender.deeds[1] = hall.hold
        self.assertEqual(swept(hall, Around()), [1])
        self.assertEqual(hall.things(), [])

    def test_put_into_a_thing_that_stays(self):
        hall, ender = with_noting()
        keeper, a, b, c = made(hall, 4)
        hall.put(b, "k", c)
        ender.deeds[2] = lambda thing: hall.put(keeper, "k", b)
        self.assertEqual(swept(hall, Around(keeper)), [2])
        self.assertEqual((hall.things(), b.count, c.count), ([1, 3, 4], 1, 1))

    def test_put_into_a_thing_that_goes(self):
        hall, ender = with_noting()
        a, b = made(hall, 2)
        ender.deeds[2] = lambda thing: hall.put(a, "k", b)
        self.assertEqual(swept(hall, Around()), [1, 2])
        self.assertEqual(hall.gone(), [1, 2])

    def test_put_into_a_new_thing(self):
        # The new one is there and none of them, so what it holds stays, though the new one itself is held by nobody.
        hall, ender = with_noting()
        a, b, c = made(hall, 3)
        hall.put(b, "k", c)
        ender.deeds[1] = lambda thing: hall.put(hall.make("new", None), "k", b)
        self.assertEqual(swept(hall, Around()), [1])
        self.assertEqual(hall.things(), [2, 3, 4])
        self.assertEqual(swept(hall, Around()), [2, 3, 4])
        self.assertEqual(ender.numbers(), [1, 2, 3, 4])

    def test_a_new_thing_put_into_one_that_goes(self):
        hall, ender = with_noting()
        a, b = made(hall, 2)
        ender.deeds[1] = lambda thing: hall.put(thing, "k", hall.make("new", None))
        self.assertEqual(swept(hall, Around()), [1, 2])
        self.assertEqual((hall.gone(), ender.numbers(), hall.things()), ([1, 2, 3], [1, 2, 3], []))

    def test_a_new_thing_that_is_not_held_stays(self):
        hall, ender = with_noting()
        made(hall, 1)
        ender.deeds[1] = lambda thing: hall.make("new", None)
        self.assertEqual(swept(hall, Around()), [1])
        self.assertEqual(hall.things(), [2])

    def test_parts_taken_by_a_last(self):
        hall, ender = with_noting()
        a, b = made(hall, 2)
        ring(hall, [a, b])
        ender.deeds[1] = lambda thing: hall.take(b, "next")
        self.assertEqual(swept(hall, Around()), [1, 2])
        self.assertEqual((a.count, b.count, hall.gone()), (0, 0, [1, 2]))

    def test_a_last_that_looses_what_can_be_come_to(self):
        hall, ender = with_noting()
        keeper, kept, a = made(hall, 3)
        hall.put(keeper, "k", kept)
        ender.deeds[3] = lambda thing: hall.take(keeper, "k")
        self.assertEqual(swept(hall, Around(keeper)), [3])
        self.assertEqual((hall.gone(), ender.numbers()), ([2, 3], [3, 2]))

    def test_one_that_hangs_on_what_a_last_lets_go(self):
        hall, ender = with_noting()
        keeper, kept, a = made(hall, 3)
        hall.put(keeper, "k", kept)
        hall.put(kept, "k", a)
        hall.put(a, "k", kept)
        b, = made(hall, 1)
        ender.deeds[4] = lambda thing: hall.take(keeper, "k")
        self.assertEqual(swept(hall, Around(keeper)), [4])
        # They were come to when the sweep began: they are none of them, and a ring for the next one.
        self.assertEqual(hall.things(), [1, 2, 3])
        self.assertEqual(swept(hall, Around(keeper)), [2, 3])

    def test_one_comes_to_nought_that_stays(self):
        # It stays because around tells it now; its last hold goes with a ring, so it waits in the row and goes.
        hall, ender = with_noting()
        a, b = made(hall, 2)
        hall.put(a, "k", b)
        around = Around()
        ender.deeds[1] = lambda thing: around.values.append(b)
        self.assertEqual(swept(hall, around), [1])
        self.assertEqual((hall.gone(), ender.numbers()), ([1, 2], [1, 2]))

    def test_within_a_last_it_does_nothing(self):
        hall, ender = with_noting()
        one, = held(hall, 1)
        other, = made(hall, 1)
        around, told = Around(), []
        ender.deeds[1] = lambda thing: told.append(swept(hall, around))
        hall.loose(one)
        self.assertEqual((told, hall.gone(), ender.numbers()), ([[]], [1], [1]))
        self.assertEqual(swept(hall, around), [2])

    def test_within_a_sweep_it_does_nothing(self):
        hall, ender = with_noting()
        a, b = made(hall, 2)
        told = []
        for number in (1, 2):
            ender.deeds[number] = lambda thing: told.append(swept(hall, Around()))
        self.assertEqual(swept(hall, Around()), [1, 2])
        self.assertEqual((told, ender.numbers(), hall.gone()), ([[], []], [1, 2], [1, 2]))

    def test_while_a_row_is_worked_off_it_does_nothing(self):
        hall, ender = with_noting()
        root, a, b, ring_one, ring_two = held(hall, 5)
        put_under(hall, root, [a, b])
        ring(hall, [ring_one, ring_two])
        told = []
        for number in (1, 2, 3):
            ender.deeds[number] = lambda thing: told.append(swept(hall, Around()))
        hall.loose(root)
        self.assertEqual((told, hall.gone()), ([[], [], []], [1, 2, 3]))
        self.assertEqual(swept(hall, Around()), [4, 5])

    def test_in_the_row_of_a_sweep_it_does_nothing(self):
        hall, ender = with_noting()
        a, kept, = made(hall, 2)
        hall.put(a, "k", kept)
        root = hall.make("root", Held([kept]))
        lone = hall.make("lone", None)
        told = []
        ender.deeds[kept.number] = lambda thing: told.append(swept(hall, Around()))
        self.assertEqual(swept(hall, Around(root, lone)), [1])
        self.assertEqual((told, hall.gone(), hall.things()), ([[]], [1, 2], [3, 4]))

    def test_sweeps_go_on_behind(self):
        hall, ender = with_noting()
        one, = held(hall, 1)
        hall.loose(one)
        made(hall, 1)
        self.assertEqual(swept(hall, Around()), [2])
        made(hall, 1)
        self.assertEqual(swept(hall, Around()), [3])


class SweepsTest(unittest.TestCase):
    def test_methods_stand_in_the_class_itself(self):
        for name in METHODS:
            self.assertIn(name, vars(Sweeps))

    def test_it_does_what_ends_does(self):
        hall, ender = with_sweeps()
        one, other, part = held(hall, 3)
        put_under(hall, other, [part])
        ender.plan(one, [("hold", other), ("loose", other), ("loose", other), ("put", other, "k", 7), ("take", other, 3),
                         ("make", other, "m"), ("take", other, "none")])
        hall.loose(one)
        self.assertEqual((hall.gone(), ender.asked(), ender.told()), ([3, 1], [1, 3], []))
        self.assertEqual([(key, value) for key, value in other.parts.items() if key != "m"], [("k", 7)])
        self.assertEqual((other.parts["m"].form, other.parts["m"].number, other.count), ("made", 4, 1))

    def test_sweeps_within_lasts_tell_nothing(self):
        hall, ender = with_sweeps()
        one, = held(hall, 1)
        lone, = made(hall, 1)
        ender.plan(one, [("sweep",), ("sweep", 1, "a"), ("sweep", lone, one)])
        hall.loose(one)
        self.assertEqual((ender.told(), hall.gone(), hall.things()), ([[], [], []], [1], [2]))

    def test_sweeps_when_the_hall_is_at_rest(self):
        hall, ender = with_sweeps()
        one, = held(hall, 1)
        a, b, c = made(hall, 3)
        ring(hall, [a, b])
        ender.plan(one, [("sweep", one, c, None), ("sweep", one), ("sweep", one)])
        ender.last(one)
        self.assertEqual((ender.told(), hall.gone()), ([[2, 3], [4], []], [2, 3, 4]))
        self.assertEqual(ender.asked(), [1, 2, 3, 4])

    def test_in_order_with_other_deeds(self):
        hall, ender = with_sweeps()
        keeper, one, lone = held(hall, 3)
        hall.put(lone, "self", lone)
        put_under(hall, keeper, [lone])
        ender.plan(one, [("make", keeper, "k"), ("sweep", keeper, one), ("take", keeper, 3), ("sweep", keeper, one),
                         ("put", keeper, "k", 0), ("sweep", keeper, one)])
        ender.last(one)
        self.assertEqual((ender.told(), hall.gone()), ([[], [3], []], [3, 4]))

    def test_passed_over_where_a_thing_is_not_there(self):
        hall, ender = with_sweeps()
        one, lost = held(hall, 2)
        hall.loose(lost)
        made(hall, 1)
        ender.plan(one, [("sweep", one, lost), ("sweep", 1, lost, "a")])
        ender.last(one)
        self.assertEqual((ender.told(), hall.gone()), ([], [2]))
        hall.loose(one)
        self.assertEqual((ender.told(), hall.gone()), ([], [2, 1]))

    def test_a_sweep_asks_for_lasts_that_sweep(self):
        hall, ender = with_sweeps()
        a, b = made(hall, 2)
        for each in (a, b):
            ender.plan(each, [("sweep",)])
        self.assertEqual(swept(hall, Around()), [1, 2])
        self.assertEqual((ender.told(), ender.asked(), hall.gone()), ([[], []], [1, 2], [1, 2]))

    def test_lists_are_the_askers_own(self):
        hall, ender = with_sweeps()
        one, = held(hall, 1)
        made(hall, 2)
        ender.plan(one, [("sweep", one), ("sweep", one), ("sweep", one)])
        ender.last(one)
        told = ender.told()
        self.assertEqual(told, [[2, 3], [], []])
        told[0].append(9)
        told[1].append(9)
        told.append([])
        self.assertEqual(ender.told(), [[2, 3], [], []])
        told = ender.told()
        self.assertEqual(len({id(each) for each in told}), 3)
        ender.asked().clear()
        self.assertEqual(ender.asked(), [1, 2, 3])

    def test_plans_are_copied(self):
        hall, ender = with_sweeps()
        one, = held(hall, 1)
        deeds = [("hold", one)]
        ender.plan(one, deeds)
        deeds.append(("sweep",))
        hall.loose(one)
        self.assertEqual((one.count, ender.told()), (1, []))

    def test_two_halls_do_not_touch_one_another(self):
        hall, ender = with_sweeps()
        other, others = with_sweeps()
        one, lone = held(hall, 2)
        two, left = held(other, 2)
        ender.plan(one, [("sweep", one)])
        others.plan(two, [("hold", left)])
        ender.last(one)
        self.assertEqual((ender.told(), ender.asked(), hall.gone()), ([[2]], [1, 2], [2]))
        self.assertEqual((others.told(), others.asked(), other.gone(), left.count), ([], [], [], 1))
        other.loose(two)
        self.assertEqual((other.gone(), left.count, hall.gone()), ([1], 2, [2]))


class SweepModel(Model):
    """The other telling of [9] and [10], with [11] besides."""

    def __init__(self, plans):
        Model.__init__(self, plans)
        self.busy = 0
        self.told = []

    def near(self, roots):
        seen = {one for one in roots if one in self.parts}
        while True:
            more = {value for one in seen for key, value in self.parts[one] if value in self.parts} - seen
            if not more:
                return seen
            seen |= more

    def loose_all(self, dropped):
        self.busy += 1
        Model.loose_all(self, dropped)
        self.busy -= 1

    def sweep(self, tell):
        if self.busy:
            return []
        lost = sorted(set(self.parts) - self.near(tell()))
        for one in lost:
            self.outside[one] += 1
        self.busy += 1
        for one in lost:
            if one not in self.asked:
                self.asked.append(one)
                for deed in self.plans.get(one, ()):
                    self.do(deed)
        self.busy -= 1
        for one in lost:
            self.outside[one] -= 1
        near = self.near(list(tell()) + [one for one in self.parts if one not in lost])
        ending = [one for one in lost if one not in near]
        self.gone += ending
        self.loose_all([value for one in ending for key, value in self.parts.pop(one)])
        return ending

    def do(self, deed):
        if deed[0] == "sweep":
            if all(each is None or each in self.parts for each in deed[1:]):
                self.told.append(self.sweep(lambda: deed[1:]))
        else:
            Model.do(self, deed)


class ManySweeps(unittest.TestCase):
    def plan(self, chance, many):
        deeds = []
        for _ in range(chance.choice((0, 0, 1, 1, 2, 3, 4))):
            word = chance.choice(("hold", "loose", "put", "put", "put", "take", "take", "make", "sweep"))
            deed = (word, chance.randint(1, many))
            if word in ("put", "take", "make"):
                deed += (chance.choice("klm"),)
            if word == "put":
                deed += (chance.choice((None, chance.randint(1, many))),)
            deeds.append(deed)
        return deeds

    def laid(self, chance):
        hall, ender = with_sweeps()
        many = chance.randint(2, 8)
        things = [None] + made(hall, many)
        plans = {at: self.plan(chance, many) for at in range(1, many + 1)}
        for at, deeds in plans.items():
            ender.plan(things[at], [
                tuple(things[part] if place in (1, 3) and part else part for place, part in enumerate(deed))
                for deed in deeds
            ])
        model = SweepModel(plans)
        for at in range(many):
            model.make()
        return hall, ender, things, model, many

    def step(self, chance, hall, things, model, many):
        there = [at for at in hall.things() if at <= many]
        if not there:
            return
        one, other, key = chance.choice(there), chance.choice(there), chance.choice("klm")
        word = chance.choice(("put", "put", "put", "take", "sweep"))
        if word == "put":
            hall.put(things[one], key, things[other])
            model.put(one, key, other)
        elif word == "take" and key in things[one].parts:
            hall.take(things[one], key)
            model.take(one, key)
        elif word == "sweep":
            roots = chance.sample(there, chance.randint(0, len(there)))
            told = swept(hall, Around(*[things[at] for at in roots]))
            self.assertEqual(told, model.sweep(lambda: roots))

    def test_against_another_telling(self):
        gone = 0
        for seed in range(1500):
            chance = random.Random(seed)
            hall, ender, things, model, many = self.laid(chance)
            for _ in range(chance.randint(5, 25)):
                self.step(chance, hall, things, model, many)
                self.assertEqual((hall.things(), hall.gone(), ender.asked(), ender.told()),
                                 (sorted(model.parts), model.gone, model.asked, model.told), seed)
                for thing in hall.all_there():
                    self.assertEqual(thing.count, model.holds(thing.number), seed)
                roots = chance.sample(hall.all_there(), chance.randint(0, len(hall.things())))
                self.assertEqual(reached(hall, roots), sorted(model.near([each.number for each in roots])), seed)
            gone += len(hall.gone())
        self.assertGreater(gone, 5000)


if __name__ == "__main__":
    unittest.main()
