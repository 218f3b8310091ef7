"""Promises [9] and [10]: the hall, its things, and how they are let go."""

import random
import unittest

from snakehall.hall import Ends, Hall, Held, Thing

PLAIN = (0, 1, -7, 10 ** 30, "", "a", True, False, None)


class Noting:
    """An ender that notes what it sees, and does what a function for the thing's number says."""

    def __init__(self):
        self.hall = None
        self.deeds = {}
        self.seen = []

    def last(self, thing):
        self.seen.append((thing.number, thing.count, self.hall.things(), self.hall.gone()))
        if thing.number in self.deeds:
            self.deeds[thing.number](thing)

    def numbers(self):
        return [each[0] for each in self.seen]


def with_noting():
    ender = Noting()
    ender.hall = Hall(ender)
    return ender.hall, ender


def with_ends():
    ends = Ends()
    hall = Hall(ends)
    ends.lay(hall)
    return hall, ends


def held(hall, many):
    """So many new things, each with one hold."""
    made = [hall.make("thing", None) for _ in range(many)]
    for thing in made:
        hall.hold(thing)
    return made


def put_under(hall, thing, parts):
    """Puts things that were held from outside into another one, which alone holds them then."""
    for part in parts:
        hall.put(thing, part.number, part)
        hall.loose(part)


class Interface(unittest.TestCase):
    def test_methods_stand_in_the_classes_themselves(self):
        for each, names in (
            (Hall, "make hold loose put take things gone"), (Held, "held"), (Ends, "lay plan last asked"),
        ):
            for name in names.split():
                self.assertIn(name, vars(each))

    def test_fields_are_there_from_the_begin(self):
        thing = Hall(None).make("list", "own")
        self.assertIsInstance(thing, Thing)
        self.assertEqual((thing.form, thing.number, thing.count, thing.parts, thing.own), ("list", 1, 0, {}, "own"))
        self.assertEqual(Held([1]).has, [1])


class Things(unittest.TestCase):
    def test_a_new_hall_has_none(self):
        for ender in (None, Ends()):
            hall = Hall(ender)
            self.assertEqual((hall.things(), hall.gone()), ([], []))

    def test_made_things(self):
        hall = Hall(None)
        made = [hall.make("form" + str(at), at) for at in range(4)]
        self.assertEqual([thing.number for thing in made], [1, 2, 3, 4])
        self.assertEqual([thing.form for thing in made], ["form0", "form1", "form2", "form3"])
        self.assertEqual([thing.own for thing in made], [0, 1, 2, 3])
        self.assertEqual([thing.count for thing in made], [0, 0, 0, 0])
        self.assertEqual(hall.things(), [1, 2, 3, 4])
        made[0].parts["k"] = 1
        self.assertEqual(made[1].parts, {})

    def test_numbers_are_not_given_twice(self):
        hall = Hall(None)
        first, = held(hall, 1)
        hall.loose(first)
        self.assertEqual(hall.make("a", None).number, 2)
        self.assertEqual(hall.things(), [2])

    def test_halls_do_not_touch_one_another(self):
        one, other = Hall(None), Hall(None)
        first, = held(one, 1)
        second, = held(other, 1)
        self.assertEqual((first.number, second.number), (1, 1))
        one.loose(first)
        self.assertEqual((one.things(), one.gone()), ([], [1]))
        self.assertEqual((other.things(), other.gone()), ([1], []))

    def test_what_was_made_and_never_held_stays(self):
        hall = Hall(None)
        thing = hall.make("a", None)
        hall.loose(held(hall, 1)[0])
        self.assertEqual(hall.things(), [1])
        self.assertEqual(thing.count, 0)

    def test_an_own_is_not_held(self):
        hall = Hall(None)
        thing, = held(hall, 1)
        for own in (thing, Held([thing])):
            hall.make("a", own)
            self.assertEqual(thing.count, 1)
        hall.loose(thing)
        self.assertEqual(hall.gone(), [1])


class HoldAndLoose(unittest.TestCase):
    def test_counts(self):
        hall = Hall(None)
        thing = hall.make("a", None)
        for count in (1, 2, 3):
            hall.hold(thing)
            self.assertEqual(thing.count, count)
        for count in (2, 1):
            hall.loose(thing)
            self.assertEqual((thing.count, hall.gone()), (count, []))
        hall.loose(thing)
        self.assertEqual((hall.things(), hall.gone()), ([], [1]))

    def test_nothing_of_other_values(self):
        hall = Hall(None)
        for value in PLAIN:
            hall.hold(value)
            hall.loose(value)
        self.assertEqual((hall.things(), hall.gone()), ([], []))

    def test_nothing_is_told(self):
        hall = Hall(None)
        thing = hall.make("a", None)
        self.assertIsNone(hall.hold(thing))
        self.assertIsNone(hall.put(thing, "k", 1))
        self.assertIsNone(hall.take(thing, "k"))
        self.assertIsNone(hall.loose(thing))


class PutAndTake(unittest.TestCase):
    def test_plain_values(self):
        hall = Hall(None)
        thing, = held(hall, 1)
        for at, value in enumerate(PLAIN):
            hall.put(thing, at, value)
        self.assertEqual(list(thing.parts.items()), list(enumerate(PLAIN)))
        hall.take(thing, 3)
        self.assertNotIn(3, thing.parts)
        hall.loose(thing)
        self.assertEqual(hall.gone(), [1])

    def test_a_part_is_held(self):
        hall = Hall(None)
        one, other = held(hall, 2)
        hall.put(one, "k", other)
        self.assertEqual((other.count, one.count), (2, 1))
        self.assertEqual(one.parts["k"], other)
        hall.put(one, "l", other)
        self.assertEqual(other.count, 3)
        hall.take(one, "k")
        self.assertEqual((other.count, one.parts), (2, {"l": other}))

    def test_a_key_put_anew_keeps_its_place(self):
        hall = Hall(None)
        thing, = held(hall, 1)
        for key in ("b", "a", 1, 0):
            hall.put(thing, key, key)
        hall.put(thing, "a", "new")
        hall.put(thing, 1, None)
        self.assertEqual(list(thing.parts.items()), [("b", "b"), ("a", "new"), (1, None), (0, 0)])
        hall.take(thing, "a")
        hall.put(thing, "a", 5)
        self.assertEqual(list(thing.parts), ["b", 1, 0, "a"])

    def test_what_stood_there_is_loosed_behind(self):
        hall, ender = with_noting()
        one, old, new = held(hall, 3)
        put_under(hall, one, [old])
        seen = []
        ender.deeds[old.number] = lambda thing: seen.append((one.parts[old.number], new.count, thing.count))
        hall.put(one, old.number, new)
        self.assertEqual(seen, [(new, 2, 1)])
        self.assertEqual(hall.gone(), [old.number])

    def test_the_same_thing_put_anew_stays(self):
        hall, ender = with_noting()
        one, other = held(hall, 2)
        put_under(hall, one, [other])
        hall.put(one, other.number, other)
        self.assertEqual((other.count, hall.gone(), ender.seen), (1, [], []))

    def test_what_is_taken_is_out_ahead_of_its_loosing(self):
        hall, ender = with_noting()
        one, other = held(hall, 2)
        put_under(hall, one, [other])
        seen = []
        ender.deeds[other.number] = lambda thing: seen.append(dict(one.parts))
        hall.take(one, other.number)
        self.assertEqual((seen, hall.gone()), ([{}], [2]))

    def test_a_thing_may_hold_itself(self):
        hall = Hall(None)
        one, = held(hall, 1)
        hall.put(one, "self", one)
        hall.loose(one)
        self.assertEqual((one.count, hall.things()), (1, [1]))
        hall.take(one, "self")
        self.assertEqual((hall.things(), hall.gone()), ([], [1]))

    def test_rings_stay(self):
        hall = Hall(None)
        one, other = held(hall, 2)
        hall.put(one, "k", other)
        hall.put(other, "k", one)
        hall.loose(one)
        hall.loose(other)
        self.assertEqual((hall.things(), hall.gone()), ([1, 2], []))


class TheOrderOfGoing(unittest.TestCase):
    def test_parts_in_the_order_of_putting(self):
        hall = Hall(None)
        root, a, b, c = held(hall, 4)
        put_under(hall, root, [c, a, b])
        hall.loose(root)
        self.assertEqual(hall.gone(), [1, 4, 2, 3])

    def test_those_that_come_to_nought_wait_behind(self):
        hall = Hall(None)
        root, a, b, c, d, e = held(hall, 6)
        put_under(hall, root, [a, b])
        put_under(hall, a, [c, d])
        put_under(hall, b, [e])
        hall.loose(root)
        self.assertEqual(hall.gone(), [1, 2, 3, 4, 5, 6])
        self.assertEqual(hall.things(), [])

    def test_a_shared_part_goes_with_its_last_holder(self):
        hall = Hall(None)
        root, a, b, shared, tail = held(hall, 5)
        put_under(hall, a, [shared, tail])
        hall.put(b, "s", shared)
        put_under(hall, root, [a, b])
        hall.loose(root)
        self.assertEqual(hall.gone(), [1, 2, 3, 5, 4])

    def test_a_part_put_twice_is_gone_once(self):
        hall = Hall(None)
        root, a = held(hall, 2)
        hall.put(root, "k", a)
        put_under(hall, root, [a])
        hall.loose(root)
        self.assertEqual(hall.gone(), [1, 2])

    def test_things_held_elsewhere_stay(self):
        hall = Hall(None)
        root, a, b = held(hall, 3)
        hall.put(root, "a", a)
        put_under(hall, root, [b])
        hall.loose(root)
        self.assertEqual((hall.gone(), hall.things(), a.count), ([1, 3], [2], 1))

    def test_parts_are_taken_out_of_what_is_gone(self):
        hall = Hall(None)
        root, a = held(hall, 2)
        hall.put(root, "a", a)
        hall.put(root, "b", 7)
        hall.loose(root)
        self.assertEqual(root.parts, {})

    def test_long_rows(self):
        for ender in (None, Ends()):
            hall = Hall(ender)
            made = held(hall, 20000)
            for one, other in zip(made, made[1:]):
                hall.put(one, "next", other)
                hall.loose(other)
            hall.loose(made[0])
            self.assertEqual(hall.gone(), list(range(1, 20001)))
            self.assertEqual(hall.things(), [])

    def test_wide_rows(self):
        hall = Hall(None)
        made = held(hall, 5000)
        put_under(hall, made[0], made[1:])
        hall.loose(made[0])
        self.assertEqual(hall.gone(), list(range(1, 5001)))


class Lasts(unittest.TestCase):
    def test_asked_ahead_of_going_with_one_hold_more(self):
        hall, ender = with_noting()
        one, other = held(hall, 2)
        put_under(hall, one, [other])
        hall.loose(one)
        self.assertEqual(ender.seen, [(1, 1, [1, 2], []), (2, 1, [2], [1])])
        self.assertEqual(hall.gone(), [1, 2])

    def test_parts_are_there_while_last_is_asked(self):
        hall, ender = with_noting()
        one, other = held(hall, 2)
        hall.put(one, "k", other)
        seen = []
        ender.deeds[1] = lambda thing: seen.append((dict(thing.parts), other.count))
        hall.loose(one)
        self.assertEqual(seen, [({"k": other}, 2)])

    def test_not_asked_of_what_stays(self):
        hall, ender = with_noting()
        one, = held(hall, 1)
        hall.hold(one)
        hall.loose(one)
        self.assertEqual(ender.seen, [])

    def test_held_again_it_stays_and_is_not_asked_twice(self):
        hall, ender = with_noting()
        one, part = held(hall, 2)
        put_under(hall, one, [part])
        ender.deeds[1] = hall.hold
        hall.loose(one)
        self.assertEqual((one.count, hall.things(), hall.gone(), one.parts), (1, [1, 2], [], {2: part}))
        hall.loose(one)
        self.assertEqual((hall.gone(), ender.numbers()), ([1, 2], [1, 2]))

    def test_put_into_another_it_stays(self):
        hall, ender = with_noting()
        one, other = held(hall, 2)
        ender.deeds[1] = lambda thing: hall.put(other, "k", thing)
        hall.loose(one)
        self.assertEqual((one.count, hall.gone()), (1, []))
        hall.loose(other)
        self.assertEqual((hall.gone(), ender.numbers()), ([2, 1], [1, 2]))

    def test_held_and_loosed_within_it_goes(self):
        hall, ender = with_noting()
        one, = held(hall, 1)

        def hold_and_loose(thing):
            hall.hold(thing)
            hall.loose(thing)
            self.assertEqual((thing.count, hall.gone()), (1, []))

        ender.deeds[1] = hold_and_loose
        hall.loose(one)
        self.assertEqual((hall.gone(), ender.numbers()), ([1], [1]))

    def test_a_loose_within_last_is_worked_off_ahead_of_its_end(self):
        hall, ender = with_noting()
        one, part, other, inner = held(hall, 4)
        put_under(hall, one, [part])
        put_under(hall, other, [inner])
        ender.deeds[1] = lambda thing: (hall.loose(other), ender.seen.append(("gone", hall.gone())))
        hall.loose(one)
        self.assertEqual(hall.gone(), [3, 4, 1, 2])
        self.assertIn(("gone", [3, 4]), ender.seen)
        self.assertEqual([each for each in ender.numbers() if each != "gone"], [1, 3, 4, 2])

    def test_a_row_of_its_own_within_a_row(self):
        hall, ender = with_noting()
        root, a, b, other, inner = held(hall, 5)
        put_under(hall, root, [a, b])
        put_under(hall, other, [inner])
        ender.deeds[a.number] = lambda thing: hall.loose(other)
        hall.loose(root)
        self.assertEqual(hall.gone(), [1, 4, 5, 2, 3])

    def test_lasts_within_lasts(self):
        hall, ender = with_noting()
        made = held(hall, 6)
        for one, other in zip(made, made[1:]):
            ender.deeds[one.number] = lambda thing, other=other: hall.loose(other)
        hall.loose(made[0])
        self.assertEqual(hall.gone(), [6, 5, 4, 3, 2, 1])
        self.assertEqual(ender.numbers(), [1, 2, 3, 4, 5, 6])

    def test_what_waits_is_passed_over_where_it_has_holds_again(self):
        hall, ender = with_noting()
        root, a, b, c = held(hall, 4)
        put_under(hall, root, [a, b, c])
        ender.deeds[a.number] = lambda thing: hall.hold(b)
        hall.loose(root)
        self.assertEqual((hall.gone(), hall.things(), b.count), ([1, 2, 4], [3], 1))
        self.assertEqual(ender.numbers(), [1, 2, 4])
        hall.loose(b)
        self.assertEqual((hall.gone(), ender.numbers()), ([1, 2, 4, 3], [1, 2, 4, 3]))

    def test_what_waits_in_a_row_waits_in_no_other(self):
        hall, ender = with_noting()
        root, a, b, c = held(hall, 4)
        put_under(hall, root, [a, b, c])

        def hold_and_loose(thing):
            hall.hold(c)
            hall.loose(c)
            self.assertEqual((hall.gone(), c.count), ([1], 0))

        ender.deeds[a.number] = hold_and_loose
        hall.loose(root)
        self.assertEqual((hall.gone(), ender.numbers()), ([1, 2, 3, 4], [1, 2, 3, 4]))

    def test_what_was_passed_over_can_be_let_go_in_the_same_row(self):
        hall, ender = with_noting()
        root, a, b, c = held(hall, 4)
        put_under(hall, root, [a, b, c])
        ender.deeds[a.number] = lambda thing: hall.hold(b)
        ender.deeds[c.number] = lambda thing: hall.loose(b)
        hall.loose(root)
        self.assertEqual((hall.gone(), hall.things()), ([1, 2, 3, 4], []))

    def test_a_part_put_in_by_last_goes_too(self):
        hall, ender = with_noting()
        one, = held(hall, 1)
        ender.deeds[1] = lambda thing: hall.put(thing, "k", hall.make("new", None))
        hall.loose(one)
        self.assertEqual((hall.gone(), ender.numbers()), ([1, 2], [1, 2]))

    def test_a_part_taken_out_by_last_goes_ahead(self):
        hall, ender = with_noting()
        one, part, other = held(hall, 3)
        put_under(hall, one, [part, other])
        ender.deeds[1] = lambda thing: hall.take(thing, other.number)
        hall.loose(one)
        self.assertEqual(hall.gone(), [3, 1, 2])

    def test_take_and_put_let_go_like_loose(self):
        for change in (lambda hall, thing: hall.take(thing, 2), lambda hall, thing: hall.put(thing, 2, 0)):
            hall, ender = with_noting()
            one, other, inner = held(hall, 3)
            put_under(hall, other, [inner])
            put_under(hall, one, [other])
            change(hall, one)
            self.assertEqual((hall.gone(), ender.numbers()), ([2, 3], [2, 3]))


class HeldTest(unittest.TestCase):
    def test_it_tells_what_stands_in_it(self):
        thing = Hall(None).make("a", None)
        own = Held([1, thing, "a", thing])
        self.assertEqual(own.has, [1, thing, "a", thing])
        self.assertEqual(own.held(), [1, thing, "a", thing])
        self.assertEqual(Held([]).held(), [])

    def test_what_stands_in_it_later(self):
        own = Held([1])
        own.has.append(2)
        self.assertEqual(own.held(), [1, 2])

    def test_lists_are_copied(self):
        some = [1, 2]
        own = Held(some)
        some.append(3)
        self.assertEqual((own.has, own.held()), ([1, 2], [1, 2]))
        own.has.append(4)
        self.assertEqual(some, [1, 2, 3])
        told = own.held()
        told.clear()
        self.assertEqual(own.held(), [1, 2, 4])
        self.assertIsNot(own.held(), own.held())
        self.assertIsNot(own.held(), own.has)
        self.assertIs(type(Held((1, 2)).has), list)

    def test_two_of_them_share_nothing(self):
        some = [1]
        one, other = Held(some), Held(some)
        one.has.append(2)
        self.assertEqual(other.held(), [1])


class EndsTest(unittest.TestCase):
    def test_without_plans_it_notes_who_was_asked(self):
        hall, ends = with_ends()
        self.assertEqual(ends.asked(), [])
        one, part = held(hall, 2)
        put_under(hall, one, [part])
        hall.loose(one)
        self.assertEqual((ends.asked(), hall.gone()), ([1, 2], [1, 2]))

    def test_hold(self):
        hall, ends = with_ends()
        one, other = held(hall, 2)
        ends.plan(one, [("hold", one), ("hold", other), ("hold", other)])
        hall.loose(one)
        self.assertEqual((one.count, other.count, hall.gone()), (1, 3, []))
        hall.loose(one)
        self.assertEqual((hall.gone(), ends.asked(), other.count), ([1], [1], 3))

    def test_loose_of_what_a_deed_holds(self):
        hall, ends = with_ends()
        one, two, other = held(hall, 3)
        ends.plan(one, [("hold", other)])
        ends.plan(two, [("loose", other), ("loose", other)])
        hall.loose(one)
        hall.loose(other)
        self.assertEqual((other.count, hall.gone()), (1, [1]))
        hall.loose(two)
        self.assertEqual((hall.gone(), ends.asked()), ([1, 3, 2], [1, 2, 3]))

    def test_loose_is_passed_over_where_no_deed_holds(self):
        hall, ends = with_ends()
        one, other, more = held(hall, 3)
        hall.hold(other)
        hall.put(more, "k", other)
        ends.plan(one, [("loose", other), ("hold", more), ("loose", other), ("loose", one)])
        hall.loose(one)
        self.assertEqual((other.count, more.count, hall.gone()), (3, 2, [1]))

    def test_a_hold_by_put_is_not_one_to_be_loosed(self):
        hall, ends = with_ends()
        one, other, more = held(hall, 3)
        ends.plan(one, [("put", other, "k", more), ("loose", more), ("make", other, "m"), ("loose", other)])
        hall.loose(one)
        self.assertEqual((more.count, other.count, hall.gone()), (2, 1, [1]))

    def test_hold_and_loose_of_itself(self):
        hall, ends = with_ends()
        one, = held(hall, 1)
        ends.plan(one, [("hold", one), ("loose", one), ("loose", one)])
        hall.loose(one)
        self.assertEqual((hall.gone(), ends.asked()), ([1], [1]))

    def test_each_hold_can_be_loosed_once(self):
        hall, ends = with_ends()
        one, other = held(hall, 2)
        ends.plan(one, [("hold", other), ("hold", other), ("loose", other), ("loose", other), ("loose", other)])
        hall.loose(one)
        self.assertEqual((other.count, hall.gone()), (1, [1]))

    def test_put(self):
        hall, ends = with_ends()
        one, other, old = held(hall, 3)
        put_under(hall, other, [old])
        ends.plan(one, [("put", other, "k", one), ("put", other, old.number, 7), ("put", one, "p", "text")])
        hall.loose(one)
        self.assertEqual(list(other.parts.items()), [(3, 7), ("k", one)])
        self.assertEqual((hall.gone(), one.count, one.parts), ([3], 1, {"p": "text"}))

    def test_take(self):
        hall, ends = with_ends()
        one, other, part = held(hall, 3)
        put_under(hall, other, [part])
        hall.put(other, "k", None)
        ends.plan(one, [("take", other, part.number), ("take", other, "k")])
        hall.loose(one)
        self.assertEqual((other.parts, hall.gone()), ({}, [3, 1]))

    def test_make(self):
        hall, ends = with_ends()
        one, other, old = held(hall, 3)
        hall.put(other, "k", old)
        hall.loose(old)
        ends.plan(one, [("make", other, "k"), ("make", one, "l")])
        hall.loose(one)
        made = other.parts["k"]
        self.assertEqual((made.form, made.number, made.count, made.parts), ("made", 4, 1, {}))
        self.assertEqual((hall.gone(), ends.asked()), ([3, 1, 5], [1, 3, 5]))

    def test_deeds_are_done_in_order(self):
        hall, ends = with_ends()
        one, a, b, c = held(hall, 4)
        keeper, = held(hall, 1)
        put_under(hall, keeper, [a, b, c])
        ends.plan(one, [("take", keeper, 4), ("take", keeper, 2), ("take", keeper, 3)])
        hall.loose(one)
        self.assertEqual(hall.gone(), [4, 2, 3, 1])

    def test_passed_over_where_a_thing_is_not_there(self):
        hall, ends = with_ends()
        one, lost, other = held(hall, 3)
        hall.loose(lost)
        ends.plan(one, [
            ("hold", lost), ("loose", lost), ("put", lost, "k", other), ("put", other, "k", lost), ("take", lost, "k"),
            ("make", lost, "k"), ("put", other, "last", 1),
        ])
        hall.loose(one)
        self.assertEqual((lost.count, lost.parts, other.count, other.parts), (0, {}, 1, {"last": 1}))
        self.assertEqual((hall.things(), hall.gone()), ([3], [2, 1]))

    def test_passed_over_where_it_was_held_by_a_deed_and_is_gone(self):
        hall, ends = with_ends()
        one, two, other = held(hall, 3)
        ends.plan(one, [("hold", other)])
        ends.plan(two, [("loose", other)])
        hall.loose(one)
        hall.loose(other)
        hall.loose(other)
        self.assertEqual(hall.gone(), [1, 3])
        hall.loose(two)
        self.assertEqual((hall.gone(), other.count), ([1, 3, 2], 0))

    def test_passed_over_where_a_part_is_not_there(self):
        hall, ends = with_ends()
        one, other = held(hall, 2)
        hall.put(other, "k", 1)
        ends.plan(one, [("take", other, "l"), ("take", one, "k"), ("take", other, "k"), ("take", other, "k")])
        hall.loose(one)
        self.assertEqual((other.parts, hall.gone()), ({}, [1]))

    def test_a_thing_that_goes_while_deeds_are_done(self):
        hall, ends = with_ends()
        one, keeper, part = held(hall, 3)
        put_under(hall, keeper, [part])
        ends.plan(one, [("take", keeper, 3), ("hold", part), ("put", keeper, "k", part), ("put", keeper, "l", one)])
        hall.loose(one)
        self.assertEqual((hall.gone(), keeper.parts, one.count), ([3], {"l": one}, 1))

    def test_what_waits_is_there(self):
        hall, ends = with_ends()
        root, a, b = held(hall, 3)
        put_under(hall, root, [a, b])
        ends.plan(a, [("hold", b)])
        hall.loose(root)
        self.assertEqual((hall.gone(), hall.things(), b.count), ([1, 2], [3], 1))

    def test_plans_are_copied(self):
        hall, ends = with_ends()
        one, other = held(hall, 2)
        deeds = [("hold", one)]
        ends.plan(one, deeds)
        ends.plan(other, deeds)
        deeds.clear()
        deeds.append(("hold", other))
        hall.loose(one)
        self.assertEqual((one.count, other.count), (1, 1))
        hall.loose(other)
        self.assertEqual((one.count, hall.gone()), (2, [2]))

    def test_a_plan_is_not_changed_by_its_doing(self):
        hall, ends = with_ends()
        one, = held(hall, 1)
        deeds = [("put", one, "k", 1), ("take", one, "k")]
        ends.plan(one, deeds)
        hall.loose(one)
        self.assertEqual(deeds, [("put", one, "k", 1), ("take", one, "k")])

    def test_the_list_of_the_asked_is_the_askers_own(self):
        hall, ends = with_ends()
        hall.loose(held(hall, 1)[0])
        told = ends.asked()
        self.assertIs(type(told), list)
        told.clear()
        self.assertEqual(ends.asked(), [1])

    def test_two_enders_share_nothing(self):
        hall, ends = with_ends()
        other, others = with_ends()
        one, = held(hall, 1)
        two, = held(other, 1)
        ends.plan(one, [("hold", one)])
        hall.loose(one)
        other.loose(two)
        self.assertEqual((ends.asked(), hall.gone()), ([1], []))
        self.assertEqual((others.asked(), other.gone()), ([1], [1]))


class ListsThatAreTold(unittest.TestCase):
    def test_things_and_gone(self):
        hall = Hall(None)
        one, other = held(hall, 2)
        hall.loose(one)
        for tell, expected in ((hall.things, [2]), (hall.gone, [1])):
            told = tell()
            self.assertIs(type(told), list)
            told.append(99)
            self.assertEqual(tell(), expected)
            self.assertIsNot(tell(), tell())


class Model:
    """Another telling of [9] and [10]: numbers alone, holds as lists of holders, calls within calls for rows."""

    def __init__(self, plans):
        self.plans = plans
        self.made = 0
        self.parts = {}
        self.outside = {}
        self.gone = []
        self.asked = []
        self.taken = {}
        self.pending = []

    def make(self):
        self.made += 1
        self.parts[self.made] = []
        self.outside[self.made] = 0
        return self.made

    def holds(self, one):
        return self.outside[one] + sum(value == one for parts in self.parts.values() for key, value in parts)

    def loose_all(self, dropped):
        """Works a row off that begins with those of the dropped that nobody holds."""
        row = []
        self.wait(dropped, row)
        while row:
            one = row.pop(0)
            self.pending.remove(one)
            if one not in self.parts or self.holds(one):
                continue
            if one not in self.asked:
                self.asked.append(one)
                self.outside[one] += 1
                for deed in self.plans.get(one, ()):
                    self.do(deed)
                self.outside[one] -= 1
            if not self.holds(one):
                self.gone.append(one)
                self.wait([value for key, value in self.parts.pop(one)], row)

    def wait(self, dropped, row):
        for at, one in enumerate(dropped):
            if one is not None and one in self.parts and one not in self.pending:
                if not self.holds(one) and one not in dropped[at + 1:]:
                    self.pending.append(one)
                    row.append(one)

    def put(self, one, key, value):
        keys = [each for each, old in self.parts[one]]
        if key in keys:
            at = keys.index(key)
            old = self.parts[one][at][1]
            self.parts[one][at] = (key, value)
            self.loose_all([old])
        else:
            self.parts[one].append((key, value))

    def take(self, one, key):
        for pair in list(self.parts[one]):
            if pair[0] == key:
                self.parts[one].remove(pair)
                self.loose_all([pair[1]])

    def do(self, deed):
        word, one = deed[:2]
        if one not in self.parts:
            return
        if word == "hold":
            self.outside[one] += 1
            self.taken[one] = self.taken.get(one, 0) + 1
        elif word == "loose" and self.taken.get(one, 0):
            self.taken[one] -= 1
            self.outside[one] -= 1
            self.loose_all([one])
        elif word == "put" and (deed[3] is None or deed[3] in self.parts):
            self.put(one, deed[2], deed[3])
        elif word == "take":
            self.take(one, deed[2])
        elif word == "make":
            self.put(one, deed[2], self.make())


class ManyHalls(unittest.TestCase):
    def plan(self, chance, many):
        """What is done at a last, with things told by their numbers."""
        deeds = []
        for _ in range(chance.choice((0, 0, 1, 1, 2, 3, 4))):
            word = chance.choice(("hold", "loose", "put", "put", "take", "take", "make"))
            deed = (word, chance.randint(1, many))
            if word in ("put", "take", "make"):
                deed += (chance.choice("kl"),)
            if word == "put":
                deed += (chance.choice((None, chance.randint(1, many))),)
            deeds.append(deed)
        return deeds

    def run_both(self, seed):
        chance = random.Random(seed)
        hall, ends = with_ends()
        many = chance.randint(2, 8)
        things = [None] + held(hall, many)
        plans = {at: self.plan(chance, many) for at in range(1, many + 1)}
        for at, deeds in plans.items():
            ends.plan(things[at], [
                tuple(things[part] if place in (1, 3) and part else part for place, part in enumerate(deed))
                for deed in deeds
            ])
        model = Model(plans)
        for at in range(many):
            model.outside[model.make()] = 1
        for _ in range(chance.randint(5, 40)):
            self.step(chance, hall, model, things, many)
            told = (hall.things(), hall.gone(), ends.asked())
            self.assertEqual(told, (sorted(model.parts), model.gone, model.asked), seed)
            for at in hall.things():
                if at <= many:
                    self.assertEqual(things[at].count, model.holds(at), seed)
                    parts = [(key, value and value.number) for key, value in things[at].parts.items()]
                    self.assertEqual(parts, model.parts[at], seed)

    def step(self, chance, hall, model, things, many):
        there = [at for at in hall.things() if at <= many]
        if not there:
            return
        one, other = chance.choice(there), chance.choice(there)
        word = chance.choice(("hold", "loose", "loose", "put", "put", "take"))
        key = chance.choice("kl")
        # What deeds hold is theirs: only the rest is loosed from here.
        own = model.outside[one] - model.taken.get(one, 0)
        if word == "hold":
            hall.hold(things[one])
            model.outside[one] += 1
        elif word == "loose" and own > 0:
            model.outside[one] -= 1
            model.loose_all([one])
            hall.loose(things[one])
        elif word == "put":
            hall.put(things[one], key, things[other])
            model.put(one, key, other)
        elif word == "take" and key in things[one].parts:
            hall.take(things[one], key)
            model.take(one, key)

    def test_against_another_telling(self):
        for seed in range(1500):
            self.run_both(seed)


if __name__ == "__main__":
    unittest.main()
