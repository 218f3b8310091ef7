"""Promise [5]: texts that are refused, and the number of the row."""

import random
import unittest

from samples import BLOCKS, SIMPLE, made_rows
from snakehall.errors import BadRow, BadTree, HallError
from snakehall.trees import text_of, tree_of

# Rows that are of no form, wherever they stand.
NO_ROWS = (
    "say", "give", "hand", "let", "let go", "go a", "let a", "outer", "outer a.b", "outer a, b", "outer say",
    "let go 1", "let go a()", "let go (a + b)", "let go super.f(a)", "let go [a]", "let go a, b", "let go say",
    "break a", "next 1", "pass pass", "sweep a", "break:", "pass = 1", "raise from a", "raise a from",
    "raise a b", "raise a from b from c", "from a", "1 = a", '"a" = b', "a() = b", "(a + b) = c", "super.f(a) = b",
    "[a] = b", "{} = b", "yes = a", "ask = 1", "if = 1", "a = ", "= a", "a = b = c", "a == b", "a = = b", "a, b = c",
    "a b", "a + b", "not a", "a.", "a.b.", "a[", "a[]", "(a)", ")", ":", "a:", "say a:", "say a b", "say a, b", "as",
    "in", "and", "or", "if", "if a", "if a b:", "if a: b", "if:", "if a::", "elif a:", "while", "while:", "while a",
    "while a: b", "for", "for a:", "for a in b", "for a in:", "for in b:", "for a.b in c:", "for a, b in c:",
    "for 1 in b:", "for say in b:", "for a of b:", "deed", "deed f", "deed f:", "deed f()", "deed ():", "deed f(a:",
    "deed f(a,):", "deed f(,):", "deed f(1):", "deed f(a b):", "deed f(a.b):", "deed f(say):", "deed say():",
    "deed f.g():", "deed f[a]:", "deed f(a)(b):", "deed f((a)):", "deed f(a, a):", "deed f(a, b, a):",
    "deed f(a): pass", "kind", "kind K", "kind K:", "kind K()", "kind ():", "kind K(A,):", "kind K(1):", "kind K(A.B):",
    "kind K[A]:", "kind say():", "try", "try a:", "try:a", "try()", "except", "else", "else a:", "else if a:", "finally",
    "finally a:", "except:", "except A", "except A as:", "except as a:", "except A as b", "except A, B:",
    "except A as b, c:", "except A.B:", "except 1:", "except A as 1:", "except A b:", "deed f(a, b, c, d, e, f, g, h, i):",
    "kind K(a, b, c, d, e, f, g, h, i):", "say [a, a, a, a, a, a, a, a, a]", "f(a, a, a, a, a, a, a, a, a)",
    "say {" + ", ".join(["a: a"] * 9) + "}", "say " + "[" * 9 + "]" * 9, "say a" + ".x" * 9, "a" + ".x" * 9 + " = b",
    "a" + ".x" * 8 + "[b] = b", "let go a" + ".x" * 9, "let go a" + ".x" * 8 + "[b]", "a[" + "[" * 8 + "]" * 8 + "] = b",
    "let go a[" + "[" * 8 + "]" * 8 + "]", "if " + "[" * 9 + "]" * 9 + ":", "1a", "01", '"a', "a_b", "a;b", "a > b",
    "\t", "a\t", "\ta", "a\r", '"%"', "# a", "a" * 13, "say 1234567890", '"' + "x" * 41 + '"', "a\u00a0= 1", "\u00e4",
)


class Refusing(unittest.TestCase):
    def refused(self, row, text):
        with self.subTest(text), self.assertRaises(BadRow) as caught:
            tree_of(text)
        error = caught.exception
        self.assertEqual(error.row, row, text)
        self.assertIs(type(error.row), int)
        self.assertIsInstance(error, HallError)
        self.assertNotIsInstance(error, BadTree)


class RowsOfNoForm(Refusing):
    def test_alone(self):
        for row in NO_ROWS:
            self.refused(0, row)

    def test_in_the_middle_and_at_the_end(self):
        for row in NO_ROWS:
            self.refused(1, "a\n" + row)
            self.refused(2, "a\nb\n" + row + "\nc\n1a")
            self.refused(1, "while a:\n  " + row + "\n  b")
            self.refused(3, "while a:\n  b\n\n  " + row)

    def test_rows_of_blanks_count(self):
        for row in ("say", "1a", "else:", "  a"):
            self.refused(3, "\n   \n\n" + row)
            self.refused(4, "a\n\n\n \n" + row + "\n\n")

    def test_only_the_first_one_is_told(self):
        self.refused(1, "a\nsay\n1a\n   b\nelse:")
        self.refused(1, "a\n   b\nsay")
        self.refused(1, "if a:\nb\nsay")

    def test_many_rows(self):
        for at in (0, 1, 300, 598, 599):
            rows = ["a = b"] * 600
            rows[at] = "a = "
            self.refused(at, "\n".join(rows))


class Indents(Refusing):
    def test_odd_ones(self):
        self.refused(0, " a")
        self.refused(0, "   a")
        self.refused(1, "a\n b")
        self.refused(1, "if a:\n b")
        self.refused(1, "if a:\n   b")
        self.refused(2, "if a:\n  b\n c")
        self.refused(2, "if a:\n  b\n   c")
        self.refused(3, "if a:\n  if b:\n    c\n   a")
        self.refused(3, "if a:\n  b\n\n else:\n  c")
        self.refused(2, "try:\n  a\n except A:\n  b")

    def test_too_far_in(self):
        self.refused(0, "  a")
        self.refused(1, "\n  a")
        self.refused(1, "a\n  b")
        self.refused(1, "a\n    b")
        self.refused(1, "if a:\n    b")
        self.refused(2, "if a:\n  b\n    c")
        self.refused(3, "if a:\n  b\nc\n  a")
        self.refused(3, "if a:\n  b\nelse:\n    c")
        self.refused(3, "if a:\n  b\n  \n    else:\n  c")
        self.refused(2, "if a:\n  b\n  else:\n    c")

    def test_too_far_out_behind_a_head(self):
        for head in ("if a:", "while a:", "for a in b:", "deed f():", "kind K():", "try:"):
            self.refused(1, head + "\na")
            self.refused(3, head + "\n\n  \na")
            self.refused(2, "if a:\n  " + head + "\n  b")
            self.refused(2, "if a:\n  " + head + "\nb")
            self.refused(1, head + "\nelse:\n  a")
            self.refused(1, head + "\n" + head)


class Arms(Refusing):
    def test_where_none_may_stand(self):
        for arm in ("else:", "except A:", "except A as b:", "finally:"):
            self.refused(0, arm)
            self.refused(0, arm + "\n  a")
            self.refused(1, "a\n" + arm + "\n  a")
            for head in ("while a:", "for a in b:", "deed f():", "kind K():"):
                self.refused(2, head + "\n  a\n" + arm + "\n  b")
                self.refused(2, head + "\n  a\n" + arm)
            self.refused(4, "if a:\n  b\nelse:\n  c\n" + arm + "\n  a")
            self.refused(4, "try:\n  b\nfinally:\n  c\n" + arm + "\n  a")
            self.refused(3, "try:\n  b\n\n  " + arm + "\n    a")
            self.refused(1, "if a:\n  " + arm + "\n    a")

    def test_arms_of_a_try_behind_an_if(self):
        for arm in ("except A:", "except A as b:", "finally:"):
            self.refused(2, "if a:\n  b\n" + arm + "\n  c")

    def test_else_behind_a_try_without_an_except(self):
        self.refused(2, "try:\n  a\nelse:\n  b")
        self.refused(2, "try:\n  a\nelse:\n  b\nfinally:\n  c")
        self.refused(3, "try:\n  a\n\nelse:")

    def test_arms_in_the_wrong_order(self):
        begin = "try:\n  a\nexcept A:\n  b\n"
        self.refused(6, begin + "else:\n  c\nelse:\n  a")
        self.refused(6, begin + "else:\n  c\nexcept B:\n  a")
        self.refused(6, begin + "finally:\n  c\nelse:\n  a")
        self.refused(6, begin + "finally:\n  c\nexcept B:\n  a")
        self.refused(6, begin + "finally:\n  c\nfinally:\n  a")
        self.refused(5, begin + "a\nexcept B:\n  a")
        self.refused(5, begin + "a\nfinally:\n  a")
        self.refused(3, "if a:\n  b\nc\nelse:\n  a")

    def test_a_try_without_except_and_finally(self):
        self.refused(2, "try:\n  a\nb")
        self.refused(4, "try:\n  a\n\n \nb")
        self.refused(3, "if a:\n  try:\n    b\nc")
        self.refused(3, "if a:\n  try:\n    b\n  c")
        self.refused(3, "if a:\n  try:\n    b\nelse:\n  c")
        self.refused(3, "try:\n  try:\n    b\nexcept A:\n  c")
        self.refused(2, "try:\n  a\ntry:\n  a\nexcept A:\n  b")
        self.refused(2, "try:\n  a\n1a")

    def test_arms_without_rows(self):
        self.refused(3, "if a:\n  b\nelse:\nc")
        self.refused(3, "try:\n  b\nexcept A:\nc")
        self.refused(3, "try:\n  b\nexcept A:\nexcept B:\n  a")
        self.refused(3, "try:\n  b\nfinally:\nc")
        self.refused(5, "try:\n  b\nexcept A:\n  a\nelse:\nfinally:\n  c")
        self.refused(6, "try:\n  b\nexcept A:\n  a\n\nelse:\nc")


class Ends(Refusing):
    def test_heads_without_rows(self):
        for head in ("if a:", "while a:", "for a in b:", "deed f():", "kind K():", "try:"):
            self.refused(1, head)
            self.refused(2, "a\n" + head)
            self.refused(2, "if a:\n  " + head)
            self.refused(2, head + "\n")
            self.refused(4, head + "\n\n   \n")

    def test_arms_without_rows(self):
        self.refused(3, "if a:\n  b\nelse:")
        self.refused(4, "if a:\n  b\nelse:\n  ")
        self.refused(3, "try:\n  b\nexcept A:")
        self.refused(3, "try:\n  b\nfinally:")
        self.refused(5, "try:\n  b\nexcept A:\n  a\nelse:")
        self.refused(5, "try:\n  b\nexcept A:\n  a\nfinally:")

    def test_a_try_without_except_and_finally(self):
        self.refused(2, "try:\n  a")
        self.refused(3, "try:\n  a\n  b")
        self.refused(5, "try:\n  a\n\n\n")
        self.refused(3, "if a:\n  try:\n    b")

    def test_six_hundred_rows(self):
        self.refused(600, "\n".join(["a = b"] * 599) + "\nif a:")
        self.refused(600, "try:\n" + "\n".join(["  a = b"] * 599))


class CutPrograms(Refusing):
    def refused_or_not(self, text):
        """The row that is told, None where the text is read."""
        try:
            tree_of(text)
        except BadRow as error:
            return error.row
        return None

    def test_a_refused_row_is_the_first_that_can_not_stand(self):
        chance = random.Random(47)
        for _ in range(300):
            rows = text_of(made_rows(chance, 3, 4)).split("\n")
            at = chance.randrange(len(rows))
            rows[at] = chance.choice(("say", " a", "else:", "finally:", "except A:", " " * 40 + "a", "a", "1a"))
            told = self.refused_or_not("\n".join(rows))
            if told is not None:
                self.assertGreaterEqual(told, at)
                # What stands ahead may be gone on with, so it is refused at its end alone, or not at all.
                self.assertIn(self.refused_or_not("\n".join(rows[:told])), (None, told))
                # What comes behind is not looked at.
                self.assertEqual(self.refused_or_not("\n".join(rows[:told + 1] + ["1a", " b"])), min(told, len(rows)))

    def test_each_cut_is_refused_at_its_end_or_not_at_all(self):
        for text, tree in BLOCKS + SIMPLE:
            rows = text.split("\n")
            for many in range(1, len(rows)):
                self.assertIn(self.refused_or_not("\n".join(rows[:many])), (None, many))


if __name__ == "__main__":
    unittest.main()
