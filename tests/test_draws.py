"""Promise [1] over the whole: programs by draws, told alike by the walker, the machine and another telling."""

import collections
import unittest

from draws import drawn
from programs import Programs
from snakehall.making import made
from snakehall.machine import met
from snakehall.strides import program_from
from snakehall.walking import Walker

GIVEN = ((), (1, "x", 5), ("ask",))
MOSTS = (400, 60, 400, 1000, 0, 1, 2, 13)


def counted(walker):
    """How many holds each thing should have, by their numbers."""
    holds = collections.Counter()
    values = list(walker.firsts.values()) + list(walker.program.parts.values())
    for call in walker.calls:
        values += call.held()
    for thing in walker.hall.all_there():
        values += thing.parts.values()
        if thing.form == "loop" and thing.own.state == "waits":
            values += thing.own.held()
    for value in values:
        if hasattr(value, "number"):
            holds[value.number] += 1
    return dict(holds)


class Counting(Walker):
    """A walker that looks at each step whether each thing that is there has just the holds that it should have."""

    def __init__(self, given, most):
        super().__init__(given, most)
        self.looks = 0
        self.wrong = []

    def note_step(self, number):
        super().note_step(number)
        if not self.hall.is_busy():
            self.looks += 1
            if counted(self) != {thing.number: thing.count for thing in self.hall.all_there()}:
                self.wrong.append(len(self.steps))


def marked(rows, marks):
    """The same rows, but that each try with last words says its number first, and its last words say it, too."""
    told = []
    for row in rows:
        if row[0] == "if":
            row = (row[0], row[1], marked(row[2], marks), marked(row[3], marks))
        elif row[0] in ("while", "for", "deed", "kind"):
            row = (*row[:-1], marked(row[-1], marks))
        elif row[0] == "try":
            first, excepts, otherwise, last = row[1:]
            marks.append(len(marks))
            mark = str(marks[-1])
            first = marked(first, marks)
            excepts = tuple((kind, name, marked(inner, marks)) for kind, name, inner in excepts)
            otherwise, last = marked(otherwise, marks), marked(last, marks)
            if last:
                first = (("say", ("text", "first " + mark)), *first)
                last = (("say", ("text", "last " + mark)), *last)
            row = ("try", first, excepts, otherwise, last)
        told.append(row)
    return tuple(told)


class Draws(Programs):
    def test_all_tell_the_same(self):
        ends = collections.Counter()
        deepest = 0
        for seed in range(900):
            result = self.run_tree(drawn(seed), GIVEN[seed % 3], MOSTS[seed % 4])
            ends[result.end[0]] += 1
            deepest = max([deepest, *result.depths])
        # The draws are of use only if they reach all of this.
        self.assertEqual(deepest, 12)
        self.assertGreater(min(ends["ended"], ends["error"], ends["going"]), 50)

    def test_all_tell_the_same_wherever_most_is_reached(self):
        for seed in range(1000, 1012):
            tree = drawn(seed)
            whole = self.run_tree(tree, GIVEN[seed % 3], 150)
            for most in range(151):
                result = self.run_tree(tree, GIVEN[seed % 3], most)
                self.assertEqual(result.steps, whole.steps[:most])
                self.assertEqual(result.said, whole.said[:len(result.said)])
                self.assertEqual(result.ends, whole.ends[:len(result.ends)])
                self.assertEqual(result.end, ("going",) if most < len(whole.steps) else whole.end)

    def test_blocks_deep_within_one_another(self):
        for seed in range(2000, 2100):
            self.run_tree(drawn(seed, 8), GIVEN[seed % 3], 400)

    def test_each_thing_has_the_holds_of_its_holders_at_each_step(self):
        looks = 0
        for seed in range(3000, 3200):
            walker = Counting(GIVEN[seed % 3], 400)
            walker.whole(program_from(drawn(seed)))
            self.assertEqual(walker.wrong, [], seed)
            looks += walker.looks
        self.assertGreater(looks, 5000)

    def test_each_being_is_gone_once(self):
        for seed in range(4000, 4150):
            result = self.run_tree(drawn(seed), GIVEN[seed % 3], 400)
            self.assertEqual(len({place for title, place in result.ends}), len(result.ends))

    def test_last_words_are_said_once_for_each_try(self):
        tries = 0
        for seed in range(5000, 5400):
            result = self.run_tree(marked(drawn(seed), []), GIVEN[seed % 3], 2000)
            # Only where twelve calls are there may a loop be over without being left.
            if result.end != ("going",) and max(result.depths) < 12:
                said = collections.Counter(result.said)
                for word in list(said):
                    if word.startswith("first "):
                        tries += said[word]
                        self.assertEqual(said["last " + word[6:]], said[word], (seed, word))
        self.assertGreater(tries, 200)

    def test_met_has_the_statements_of_the_steps(self):
        for seed in range(6000, 6100):
            tree = drawn(seed)
            codes, paper = made(tree)
            result = self.run_tree(tree, GIVEN[seed % 3], 300)
            pairs = met(codes, list(GIVEN[seed % 3]), 300)
            self.assertEqual([number for code, number in pairs], result.numbers)
            self.assertEqual([code for code, number in pairs], [paper[number][0] for code, number in pairs])


if __name__ == "__main__":
    unittest.main()
