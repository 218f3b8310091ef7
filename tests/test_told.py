"""Promise [23]: what is told of a program."""

import inspect
import sys
import unittest

from programs import Programs, unindented
from snakehall.making import made
from snakehall.machine import ran
from snakehall.trees import tree_of
from snakehall.walking import walked


def both(text):
    """Two functions that tell of a text by the words given and most: by the walker, and by the machine."""
    tree = tree_of(text)
    codes = made(tree)[0]
    return (lambda given, most: walked(tree, given, most)), (lambda given, most: ran(codes, given, most))


class Told(Programs):
    def test_the_parts_of_the_tuple(self):
        result = self.run_text('say 1\na = Error("w")\nraise a from NoName()')
        said, end, steps, ends = result.whole
        self.assertIs(type(result.whole), tuple)
        self.assertEqual((said, end), (["1"], ("error", "Error", "w", [("NoName", "")])))
        self.assertEqual(steps, [(0, 1, 0), (1, 1, 0), (2, 1, 1)])
        self.assertEqual(ends, [("Error", 1), ("NoName", 2)])
        for some in (said, steps, ends, end[3]):
            self.assertIs(type(some), list)
        for each in (end, *steps, *ends, *end[3]):
            self.assertIs(type(each), tuple)
        for step in steps:
            self.assertEqual([type(each) for each in step], [int, int, int])
        self.assertEqual([type(each) for each in ends[0]], [str, int])

    def test_a_program_without_rows(self):
        self.assertEqual(self.run_text("").whole, ([], ("ended",), [], []))
        self.assertEqual(self.run_text("", most=0).whole, ([], ("ended",), [], []))

    def test_which_rows_are_steps(self):
        for text, numbers in (
            ("pass", [0]), ("pass\npass", [0, 1]), ("if yes:\n  pass\nelse:\n  pass", [0, 1]),
            ("if no:\n  pass\nelse:\n  pass", [0, 2]), ("if no:\n  pass\npass", [0, 2]), ("while no:\n  pass", [0]),
            ("while yes:\n  break", [0, 1]), ("for x in [1, 2]:\n  pass", [0, 0, 1, 0, 1, 0]), ("for x in []:\n  pass", [0, 0]),
            ("for x in [1, 2]:\n  break", [0, 0, 1]), ("for x in [1, 2]:\n  next", [0, 0, 1, 0, 1, 0]),
            ("for x in {1: 2}:\n  pass", [0, 0, 1, 0]),
            ("try:\n  pass\nexcept Error:\n  pass\nelse:\n  pass\nfinally:\n  pass", [0, 1, 3, 4]),
            ("try:\n  nothere\nexcept Error:\n  pass\nelse:\n  pass\nfinally:\n  pass", [0, 1, 2, 4]),
            ("deed f():\n  pass", [0]), ("deed f():\n  pass\nf()", [0, 2, 1]),
            ("kind K():\n  pass\n  x = 1\n  deed f():\n    pass", [0, 1, 2, 3]),
            ("deed f():\n  a = 1\n  deed g():\n    outer a\n  g()\nf()", [0, 5, 1, 2, 4, 3]),
            ("a = 1\na\nsay a\nsweep\nlet go a", [0, 1, 2, 3, 4]),
            ("kind K():\n  pass\nk = K()\nk.x = 1\nlet go k.x\na = {}\na[0] = 1\nlet go a[0]", [0, 1, 2, 3, 4, 5, 6, 7]),
            ("try:\n  try:\n    raise Error()\n  except Error:\n    raise\nexcept Error:\n  pass", [0, 1, 2, 3, 4]),
            ("deed l():\n  hand 1\nfor x in l():\n  pass", [0, 2, 2, 1, 3, 2]),
            ("deed l():\n  hand 1\nx = l()\npull(x)\nfor y in x:\n  pass", [0, 2, 3, 1, 4, 4]),
        ):
            self.assertEqual(self.run_text(text).numbers, numbers, text)

    def test_alike_statements_have_numbers_of_their_own(self):
        result = self.run_text("pass\nif yes:\n  pass\n  pass\npass\nif yes:\n  pass\n  pass")
        self.assertEqual(result.numbers, list(range(8)))

    def test_depths(self):
        result = self.run_text("deed f(n):\n  if n:\n    f((n - 1))\nf(2)\npass")
        self.assertEqual(result.steps, [(0, 1, 0), (3, 1, 1), (1, 2, 2), (2, 2, 2), (1, 3, 3), (2, 3, 3), (1, 4, 4), (4, 1, 1)])

    def test_things_are_all_but_the_first_kinds(self):
        result = self.run_text("""
            kind K():
              deed f(self):
                pass
            k = K()
            t = k.f
            deed l():
              hand 1
            x = l()
            a = [{}]
            e = Error
            e = Error()
            pass
        """)
        self.assertEqual(result.things, [0, 1, 2, 3, 4, 5, 7, 9, 9, 10])

    def test_beings_gone_with_their_numbers(self):
        result = self.run_text("""
            kind K():
              pass
            kind L(Error):
              pass
            a = K()
            b = L()
            try:
              nothere
            except NoName:
              pass
            K()
            let go b
        """)
        self.assertEqual(result.ends, [("NoName", 3), ("K", 4), ("L", 2), ("K", 1)])

    def test_said(self):
        self.says('say 1\nsay ""\nsay "a  b"\nsay none\nsay [1]', "1", "", "a  b", "none", "list 1")

    def test_words_as_they_are_shown(self):
        for words, text in (("5", "5"), ("none", "none"), ("yes", "yes"), ("[1, 2]", "list 2"), ("Error", "kind Error"),
                            ('""', ""), ('"a b"', "a b"), ("Error()", "being Error")):
            self.fails(f"raise Error({words})", "Error", text)
        self.fails("e = Error(1)\nlet go e.words\nraise e", "Error", "")

    def test_causes(self):
        self.fails("""
            a = Error("a")
            b = NoName("b")
            c = NoField("c")
            b.cause = c
            raise a from b
        """, "Error", "a", [("NoName", "b"), ("NoField", "c")])
        self.fails('a = Error("a")\na.cause = 5\nraise a', "Error", "a")
        self.fails('kind K():\n  pass\nb = Error("b")\nb.cause = K()\nraise Error("a") from b', "Error", "a", [("Error", "b")])

    def test_a_cause_without_words(self):
        self.fails("b = Error(1)\nlet go b.words\nraise Error(2) from b", "Error", "2", [("Error", "")])

    def test_at_most_ten_causes(self):
        chain = "e = Error(0)\nfor i in [1, 2, 3, 4, 5, 6, 7, 8{}]:\n  n = Error(i)\n  n.cause = e\n  e = n\n"
        for more, many in (("", 8), (", 9", 9), (", 9, 10", 10), (", 9, 10, 11", 11)):
            # A list has at most eight items as it is written.
            text = chain.replace("[1, 2, 3, 4, 5, 6, 7, 8{}]", "([1, 2, 3, 4, 5, 6, 7, 8] + [" + more[2:] + "])") + "raise e"
            causes = [("Error", str(at)) for at in range(many - 1, -1, -1)][:10]
            self.fails(text, "Error", str(many), causes)

    def test_causes_that_go_round(self):
        self.fails("e = Error(1)\nraise e from e", "Error", "1", [("Error", "1")] * 10)
        self.fails("e = Error(1)\nf = NoName(2)\nf.cause = e\nraise e from f", "Error", "1",
                   [("NoName", "2"), ("Error", "1")] * 5)

    def test_ask(self):
        text = "a = ask\nwhile (not (a == none)):\n  say a\n  a = ask\nsay ask"
        self.says(text, "none")
        self.says(text, "1", "x", "none", given=(1, "x"))
        self.says(text, "0", "", "-5", "none", given=(0, "", -5))
        self.says("deed f():\n  give ask\nsay [f(), ask][1]\nsay ask", "2", "3", given=(1, 2, 3, 4))

    def test_most(self):
        text = "say 1\nsay 2\nsay 3"
        for most, said, end in ((0, 0, "going"), (1, 1, "going"), (2, 2, "going"), (3, 3, "ended"), (4, 3, "ended"),
                                (3000, 3, "ended")):
            result = self.run_text(text, most=most)
            self.assertEqual(result.whole, (["1", "2", "3"][:said], (end,), [(0, 1, 0), (1, 1, 0), (2, 1, 0)][:said], []))

    def test_a_program_that_goes_on_and_on(self):
        result = self.run_text("while yes:\n  pass", most=3000)
        self.assertEqual((len(result.steps), result.end), (3000, ("going",)))
        result = self.run_text("a = []\nfor x in [1]:\n  while yes:\n    a[size(a)] = 1", most=3000)
        self.assertEqual(result.end, ("error", "TooBig", "", []))

    def test_beings_gone_so_far_where_most_is_reached(self):
        result = self.run_text("Error()\nError()\nError()", most=2)
        self.assertEqual((result.end, result.ends), (("going",), [("Error", 1), ("Error", 2)]))


class TheAskersOwn(unittest.TestCase):
    TEXT = 'kind K():\n  deed end(self):\n    say "end"\nk = K()\nsay ask\nraise Error(ask) from Error(2)'

    def test_asked_again_the_same_also_where_what_was_told_is_changed(self):
        for tell in both(self.TEXT):
            given = ["a", 5]
            first = tell(given, 3000)
            kept = (list(first[0]), first[1][:3] + (list(first[1][3]),), list(first[2]), list(first[3]))
            self.assertEqual(given, ["a", 5])
            for some in (first[0], first[1][3], first[2], first[3]):
                some.append("other")
                some.reverse()
            self.assertEqual(tell(given, 3000), kept)
            self.assertEqual(given, ["a", 5])

    def test_no_two_lists_are_one_and_the_same(self):
        for tell in both(self.TEXT):
            first, second = tell(["a"], 3000), tell(["a"], 3000)
            lists = [some for told in (first, second) for some in (told[0], told[1][3], told[2], told[3])]
            self.assertEqual(len({id(some) for some in lists}), 8)
        for tell in both(""):
            first = tell([], 5)
            self.assertEqual(len({id(some) for some in (first[0], first[2], first[3])}), 3)

    def test_given_words_that_are_changed_later(self):
        for tell in both("say ask\nsay ask"):
            given = ["a"]
            told = tell(given, 10)
            given.append("b")
            self.assertEqual(told[0], ["a", "none"])
            self.assertEqual(tell(given, 10)[0], ["a", "b"])


class Bounds(Programs):
    # A being whose end asks loops, which are left by errors that hold beings, and so on, as deep as calls can be.
    DEEP = """
        kind K():
          deed begin(self, n):
            self.n = n
          deed end(self):
            say self.n
            try:
              for x in l((self.n + 1)):
                raise Error(K((self.n + 1)))
            finally:
              x = [K((self.n + 1))]
              x = none
        deed l(n):
          try:
            for y in [K(n), K(n)]:
              y = none
              hand K(n)
          finally:
            z = K(n)
            z = none
            raise Error(K(n))
        K(0)
    """

    def test_calls_of_python_stay_few(self):
        result = self.run_text(self.DEEP)
        self.assertEqual(max(result.depths), 12)
        limit = sys.getrecursionlimit()
        sys.setrecursionlimit(len(inspect.stack()) + 350)
        try:
            told = [tell([], 3000) for tell in both(unindented(self.DEEP))]
        finally:
            sys.setrecursionlimit(limit)
        self.assertEqual(told, [result.whole] * 2)

    def test_long_programs(self):
        result = self.run_text("\n".join(["a = 0"] + ["a = (a + 1)"] * 598 + ["say a"]))
        self.assertEqual((result.said, len(result.steps)), (["598"], 600))

    def test_blocks_ten_within_one_another(self):
        heads = ["if yes:", "for a in [1]:", "while yes:", "try:", "if yes:", "for b in [1]:", "while yes:", "if yes:", "if yes:", "if yes:"]
        rows = ["  " * at + head for at, head in enumerate(heads)] + ["  " * 10 + "say 1", "  " * 10 + "raise Error()"]
        rows += ["  " * 3 + "except Error:", "  " * 4 + "break"]
        self.says("\n".join(rows), "1")

    def test_expressions_of_all_bounds_in_twelve_calls(self):
        # Eight brackets within one another, and eight tails behind most: more than Python's calls within calls bear.
        expr = "self.f((n - 1)).m.m.m.m.m.m"
        for level in range(6):
            expr = f"({expr} and me).m.m.m.m.m.m.m.m"
        self.says(f"""
            kind K():
              deed f(self, n):
                me = self
                if (n == 0):
                  give self
                give {expr}
            k = K()
            k.m = k
            say (k.f(10) == k)
        """, "yes")


if __name__ == "__main__":
    unittest.main()
