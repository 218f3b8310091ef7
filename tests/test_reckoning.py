"""Promise [12]: what a program reckons with values."""

import unittest

from programs import Programs

# A value of each sort, by a name or as it is written.
AHEAD = """
kind K():
  deed f(self):
    pass
deed l():
  hand 1
b = K()
n = 3
t = "t"
li = [1, 2]
ta = {"k": 1}
lo = l()
ti = b.f
"""
SORTS = {
    "number": "n", "text": "t", "yes": "yes", "no": "no", "none": "none", "list": "li", "table": "ta", "being": "b",
    "kind": "K", "deed": "l", "loop": "lo", "tied": "ti",
}
# 10 ** 30, as a sum of products of numbers that can be written.
LARGE = "big = ((100000000 * 100000000) * (100000000 * 1000000))"
# Texts of 40, 200 and 400 signs.
LONG = """
x = "0123456789012345678901234567890123456789"
y = ((((x + x) + x) + x) + x)
z = (y + y)
"""
# Lists of 200, 399 and 400 items, and a table of 400 keys.
MANY = """
q = []
while (size(q) < 200):
  q[size(q)] = size(q)
r = (q + q)
p = (q + q)
let go p[399]
ta = {}
while (size(ta) < 400):
  ta[size(ta)] = "v"
"""


class Reckoning(Programs):
    def of_each_two(self, sign, fine):
        """Two values of the sorts in fine are reckoned, two others are not."""
        for one, left in SORTS.items():
            for other, right in SORTS.items():
                expr = f"({left} {sign} {right})"
                if (one, other) in fine:
                    self.assertEqual(self.run_text(AHEAD + "say " + expr).end, ("ended",), expr)
                else:
                    self.expr_fails(expr, "BadKind", AHEAD)

    def test_plus_of_each_sort(self):
        self.of_each_two("+", [("number", "number"), ("text", "text"), ("list", "list")])

    def test_minus_of_each_sort(self):
        self.of_each_two("-", [("number", "number")])

    def test_times_of_each_sort(self):
        self.of_each_two("*", [("number", "number")])

    def test_less_of_each_sort(self):
        self.of_each_two("<", [("number", "number"), ("text", "text")])

    def test_like_of_each_sort(self):
        for one, left in SORTS.items():
            for other, right in SORTS.items():
                self.shows(f"({left} == {right})", "yes" if one == other else "no", AHEAD)

    def test_size_of_each_sort(self):
        for sort, value in SORTS.items():
            if sort in ("text", "list", "table"):
                self.assertEqual(self.run_text(AHEAD + f"say size({value})").end, ("ended",))
            else:
                self.expr_fails(f"size({value})", "BadKind", AHEAD)

    def test_not_of_each_sort(self):
        for sort, value in SORTS.items():
            self.shows(f"(not {value})", "yes" if sort in ("no", "none") else "no", AHEAD)
        self.shows("(not 0)", "yes")
        self.shows('(not "")', "yes")
        self.shows("(not [])", "no")
        self.shows("(not {})", "no")
        self.shows('(not "0")', "no")
        self.shows("(not (0 - 1))", "no")

    def test_numbers(self):
        for expr, text in (
            ("(2 + 3)", "5"), ("(2 - 3)", "-1"), ("(2 * 3)", "6"), ("((0 - 2) * 3)", "-6"), ("((0 - 2) * (0 - 3))", "6"),
            ("(0 * (0 - 3))", "0"), ("(999999999 + 1)", "1000000000"), ("((1 - 1) + (1 - 2))", "-1"),
        ):
            self.shows(expr, text)

    def test_texts(self):
        for expr, text in (
            ('("a" + "b")', "ab"), ('("" + "")', ""), ('("b" + "a")', "ba"), ('(" " + "x")', " x"),
            ('size("")', "0"), ('size("abc")', "3"),
        ):
            self.shows(expr, text)

    def test_lists(self):
        self.says("""
            a = [1, "x"]
            b = [a]
            c = (a + b)
            say c
            say c[0]
            say c[1]
            say (c[2] == a)
            say a
            say b
            say (([] + []) == [])
            say size([])
            say size(c)
            say size({1: 2, "1": 3})
        """, "list 3", "1", "x", "yes", "list 2", "list 1", "no", "0", "3", "2")

    def test_less(self):
        for expr, text in (
            ("(1 < 2)", "yes"), ("(2 < 1)", "no"), ("(1 < 1)", "no"), ("((0 - 1) < 0)", "yes"), ('("a" < "b")', "yes"),
            ('("b" < "a")', "no"), ('("" < "a")', "yes"), ('("a" < "")', "no"), ('("a" < "a")', "no"),
            ('("Z" < "a")', "yes"), ('("9" < "A")', "yes"), ('(" " < "!")', "yes"), ('("z" < "~")', "yes"),
            ('("ab" < "b")', "yes"), ('("ab" < "abc")', "yes"), ('("10" < "9")', "yes"),
        ):
            self.shows(expr, text)

    def test_like(self):
        for expr, text in (
            ("(1 == 1)", "yes"), ("(1 == 2)", "no"), ('("a" == "a")', "yes"), ('("a" == "b")', "no"), ("(1 == yes)", "no"),
            ("(0 == no)", "no"), ('("" == no)', "no"), ("(none == no)", "no"), ("(yes == yes)", "yes"),
            ("(no == no)", "yes"), ("(none == none)", "yes"), ("(yes == no)", "no"), ('(1 == "1")', "no"),
            ("([] == [])", "no"), ("({} == {})", "no"), ("(Error == Error)", "yes"), ("(Error() == Error())", "no"),
        ):
            self.shows(expr, text)
        self.says("a = []\nb = a\nsay (a == b)", "yes")

    def test_and_and_or(self):
        for one in ("no", "none", "0", '""'):
            self.shows(f"({one} and 7)", one.strip('"'))
            self.shows(f"({one} or 7)", "7")
        for one, text in (("yes", "yes"), ("1", "1"), ('"a"', "a"), ("[]", "list 0"), ("Error", "kind Error")):
            self.shows(f"({one} and 7)", "7")
            self.shows(f"({one} or 7)", text)

    def test_the_second_side_is_reckoned_only_where_it_is_needed(self):
        ahead = "deed f(x):\n  say x\n  give x\n"
        for expr, said in (
            ("(f(1) and f(2))", "1 2"), ("(f(0) and f(2))", "0"), ("(f(1) or f(2))", "1"), ("(f(0) or f(2))", "0 2"),
            ("((f(0) or f(3)) and f(4))", "0 3 4"), ("(f(0) and noname)", "0"), ("(f(1) or noname)", "1"),
        ):
            self.says(ahead + expr, *said.split())

    def test_large_numbers(self):
        self.shows("big", "1" + "0" * 30, LARGE)
        self.shows("(0 - big)", "-1" + "0" * 30, LARGE)
        self.shows("((big - 1) + 1)", "1" + "0" * 30, LARGE)
        self.shows("(big + (0 - big))", "0", LARGE)
        for expr in ("(big + 1)", "((0 - big) - 1)", "(big * 2)", "(big * (0 - 2))", "(big * big)", "(big + big)",
                     "((0 - big) + (0 - 1))", "((0 - big) - big)"):
            self.expr_fails(expr, "TooBig", LARGE)
        for expr in ("(big * 1)", "(big + 0)", "(big - big)", "(big * (0 - 1))", "(big < (big - 1))"):
            self.assertEqual(self.run_text(LARGE + "\nsay " + expr).end, ("ended",))

    def test_long_texts(self):
        self.shows("size(z)", "400", LONG)
        self.shows('size((z + ""))', "400", LONG)
        self.expr_fails('(z + "a")', "TooBig", LONG)
        self.expr_fails('("a" + z)', "TooBig", LONG)
        self.expr_fails("(z + z)", "TooBig", LONG)

    def test_long_lists_and_tables(self):
        self.shows("size(r)", "400", MANY)
        self.shows("size((p + [1]))", "400", MANY)
        self.shows("size((r + []))", "400", MANY)
        self.shows("size(ta)", "400", MANY)
        self.expr_fails("(r + [1])", "TooBig", MANY)
        self.expr_fails("([1] + r)", "TooBig", MANY)
        self.expr_fails("(r + r)", "TooBig", MANY)
        self.fails(MANY + "r[400] = 1", "TooBig")
        self.fails(MANY + "ta[400] = 1", "TooBig")
        self.fails(MANY + 'ta["k"] = 1', "TooBig")
        self.says(MANY + "r[399] = 1\nta[0] = 1\np[399] = 1\nsay size(p)", "400")

    def test_bad_kind_goes_ahead_of_too_big(self):
        for expr in ("(big + t)", "(big * no)", "(none - big)"):
            self.expr_fails(expr, "BadKind", AHEAD + LARGE)
        for expr in ("(z + 1)", "(z + [])", "(yes + z)"):
            self.expr_fails(expr, "BadKind", LONG)
        self.expr_fails("(r + {})", "BadKind", MANY)
        self.fails(MANY + "r[yes] = 1", "BadKind")
        self.fails(MANY + "ta[none] = 1", "BadKind")
        self.fails(MANY + "r[401] = 1", "NoItem")
        self.fails(MANY + "r[(0 - 1)] = 1", "NoItem")

    def test_given_numbers_and_texts(self):
        self.says("say (ask + ask)\nsay (ask + ask)\nsay ask\nsay ask", "5", "ab", "none", "none", given=(2, 3, "a", "b"))


if __name__ == "__main__":
    unittest.main()
