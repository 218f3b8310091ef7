"""Promises [4] and [5]: programs that are read and written."""

import random
import unittest

from samples import A, B, BLOCKS, C, PASS, SIMPLE, made_rows
from snakehall.exprs import expr_of
from snakehall.trees import text_of, tree_of


def only_told_kinds(tree):
    """Whether a tree is of tuples, texts, whole numbers and None through and through."""
    if type(tree) is tuple:
        return all(only_told_kinds(part) for part in tree)
    return tree is None or type(tree) in (str, int)


def further_in(text, depth):
    return "\n".join("  " * depth + row for row in text.split("\n"))


class SimpleStatements(unittest.TestCase):
    def test_each(self):
        for text, tree in SIMPLE:
            with self.subTest(text):
                self.assertEqual(tree_of(text), (tree,))
                self.assertTrue(only_told_kinds(tree_of(text)))

    def test_each_with_many_blanks_between_and_behind(self):
        for text, tree in SIMPLE:
            with self.subTest(text):
                wide = text.replace(".", " . ").replace("[", " [ ").replace("]", " ] ").replace(" ", "   ")
                self.assertEqual(tree_of(wide + "   "), (tree,))

    def test_each_without_blanks_that_are_not_needed(self):
        for text, tree in (("a=b", SIMPLE[0][1]), ("a.b=c", SIMPLE[1][1]), ("a[b]=c", SIMPLE[2][1])):
            self.assertEqual(tree_of(text), (tree,))
        self.assertEqual(tree_of('say"x"'), (("say", ("text", "x")),))
        self.assertEqual(tree_of('raise"x"from"y"'), (("raise", ("text", "x"), ("text", "y")),))
        self.assertEqual(tree_of("give[a]"), (("give", ("list", (A,))),))

    def test_each_behind_each(self):
        for text, tree in SIMPLE:
            for other, behind in SIMPLE:
                self.assertEqual(tree_of(text + "\n" + other), (tree, behind))

    def test_every_expression_may_be_done_alone(self):
        for text in ("7", '"say"', "yes", "no", "none", "ask", "[a]", "{a: b}", "(a + b)", "(not a)", "pull(a)",
                     "size(a)", "super.f(a)", "a.b", "a[b]", "a()", '"a".b', "1"):
            self.assertEqual(tree_of(text), (("do", expr_of(text)),))

    def test_every_expression_may_be_told(self):
        for text in ("ask", "[a]", "{a: b}", "(a == b)", "super.f(a).x", "none", '"from"'):
            for word in ("say", "give", "hand"):
                self.assertEqual(tree_of(word + " " + text), ((word, expr_of(text)),))
            self.assertEqual(tree_of("raise " + text), (("raise", expr_of(text), None),))
            self.assertEqual(tree_of("raise a from " + text), (("raise", A, expr_of(text)),))
            self.assertEqual(tree_of("a = " + text), (("set", "a", expr_of(text)),))

    def test_names_that_begin_with_a_word(self):
        for name in ("sayer", "giver", "handy", "raised", "letgo", "letter", "outers", "breaks", "nexts", "passed",
                     "sweeper", "iffy", "elses", "whiles", "form", "deeds", "kinds", "tryer", "excepts", "finallyx"):
            self.assertEqual(tree_of(name), (("do", ("name", name)),))
            self.assertEqual(tree_of(name + " = 1"), (("set", name, ("number", 1)),))
            self.assertEqual(tree_of(name + "(a)"), (("do", ("call", ("name", name), (A,))),))

    def test_texts_of_words_are_texts(self):
        for word in ("say", "break", "if", "else", "let", "raise", "try"):
            self.assertEqual(tree_of('"' + word + '"'), (("do", ("text", word)),))

    def test_what_is_set(self):
        self.assertEqual(tree_of("a.b.c = 1"), (("setfield", ("field", A, "b"), "c", ("number", 1)),))
        self.assertEqual(tree_of("a().b = 1"), (("setfield", ("call", A, ()), "b", ("number", 1)),))
        self.assertEqual(tree_of("a.b[c] = 1"), (("setitem", ("field", A, "b"), C, ("number", 1)),))
        self.assertEqual(tree_of("[a][0] = 1"), (("setitem", ("list", (A,)), ("number", 0), ("number", 1)),))
        self.assertEqual(tree_of("super.f(a).b = c"), (("setfield", ("super", "f", (A,)), "b", C),))
        self.assertEqual(tree_of('"x".b = ask'), (("setfield", ("text", "x"), "b", ("ask",)),))
        self.assertEqual(tree_of("(a + b).c = c"), (("setfield", ("+", A, B), "c", C),))

    def test_what_is_let_go(self):
        self.assertEqual(tree_of("let go a.b.c"), (("dropfield", ("field", A, "b"), "c"),))
        self.assertEqual(tree_of("let go a(b)[c]"), (("dropitem", ("call", A, (B,)), C),))
        self.assertEqual(tree_of("let go super.f(a)[0]"), (("dropitem", ("super", "f", (A,)), ("number", 0)),))


class Blocks(unittest.TestCase):
    def test_each(self):
        for text, tree in BLOCKS:
            with self.subTest(text):
                self.assertEqual(tree_of(text), (tree,))
                self.assertTrue(only_told_kinds(tree_of(text)))

    def test_each_with_blanks_between_and_rows_of_blanks(self):
        for text, tree in BLOCKS:
            with self.subTest(text):
                wide = text.replace(":", " :  ").replace("(", " ( ").replace(")", " ) ").replace(",", " , ")
                rows = "\n   \n\n".join(wide.split("\n"))
                self.assertEqual(tree_of("\n \n" + rows + "\n\n   "), (tree,))

    def test_each_within_each(self):
        for text, tree in BLOCKS:
            for within, inner in BLOCKS:
                whole = text.replace("  pass", further_in(within, 1))
                self.assertEqual(tree_of(whole), (put_for_pass(tree, inner),))

    def test_each_behind_each(self):
        for text, tree in BLOCKS:
            for other, behind in BLOCKS:
                self.assertEqual(tree_of(text + "\n" + other), (tree, behind))

    def test_each_in_every_arm(self):
        for text, tree in BLOCKS:
            inner = further_in(text, 1)
            self.assertEqual(tree_of("if a:\n" + inner + "\nelse:\n" + inner), (("if", A, (tree,), (tree,)),))
            whole = "try:\n" + inner + "\nexcept A:\n" + inner + "\nelse:\n" + inner + "\nfinally:\n" + inner
            self.assertEqual(tree_of(whole), (("try", (tree,), (("A", None, (tree,)),), (tree,), (tree,)),))

    def test_simple_statements_in_blocks(self):
        for text, tree in SIMPLE:
            self.assertEqual(tree_of("while a:\n  " + text + "\n  " + text), (("while", A, (tree, tree)),))

    def test_heads_without_blanks_that_are_not_needed(self):
        self.assertEqual(tree_of("if(a + b):\n  pass"), (("if", ("+", A, B), (PASS,), ()),))
        self.assertEqual(tree_of("for a in[b]:\n  pass"), (("for", "a", ("list", (B,)), (PASS,)),))
        self.assertEqual(tree_of("deed f(a,b):\n  pass"), (("deed", "f", ("a", "b"), (PASS,)),))

    def test_an_else_belongs_to_the_if_at_its_indent(self):
        self.assertEqual(
            tree_of("if a:\n  if b:\n    pass\nelse:\n  c"),
            (("if", A, (("if", B, (PASS,), ()),), (("do", C),)),),
        )
        self.assertEqual(
            tree_of("if a:\n  if b:\n    pass\n  else:\n    c"),
            (("if", A, (("if", B, (PASS,), (("do", C),)),), ()),),
        )

    def test_an_else_belongs_to_the_try_at_its_indent(self):
        self.assertEqual(
            tree_of("try:\n  pass\nexcept A:\n  if a:\n    b\nelse:\n  c"),
            (("try", (PASS,), (("A", None, (("if", A, (("do", B),), ()),)),), (("do", C),), ()),),
        )

    def test_many_excepts(self):
        excepts = "".join(f"\nexcept K{at} as e{at}:\n  pass" for at in range(20))
        told = tuple((f"K{at}", f"e{at}", (PASS,)) for at in range(20))
        self.assertEqual(tree_of("try:\n  pass" + excepts), (("try", (PASS,), told, (), ()),))

    def test_rows_go_out_by_several_blocks_at_once(self):
        self.assertEqual(
            tree_of("if a:\n  while b:\n    if c:\n      pass\na"),
            (("if", A, (("while", B, (("if", C, (PASS,), ()),)),), ()), ("do", A)),
        )

    def test_a_kinds_names_may_be_alike(self):
        self.assertEqual(tree_of("kind K(A, A):\n  pass"), (("kind", "K", ("A", "A"), (PASS,)),))
        self.assertEqual(tree_of("kind K(K):\n  pass"), (("kind", "K", ("K",), (PASS,)),))

    def test_a_deed_may_have_its_own_name_as_a_parameter(self):
        self.assertEqual(tree_of("deed f(f):\n  pass"), (("deed", "f", ("f",), (PASS,)),))


def put_for_pass(tree, inner):
    """The tree with another statement wherever pass stands."""
    if tree == PASS:
        return inner
    if type(tree) is tuple:
        return tuple(put_for_pass(part, inner) for part in tree)
    return tree


class TextsWithoutStatements(unittest.TestCase):
    def test_they_tell_nothing(self):
        for text in ("", " ", "     ", "\n", "\n\n\n", "   \n \n", " \n"):
            self.assertEqual(tree_of(text), ())

    def test_rows_of_blanks_are_passed_over(self):
        self.assertEqual(tree_of("\na\n\n   \nb\n "), (("do", A), ("do", B)))
        self.assertEqual(tree_of("if a:\n\n  pass\n     \n\n  b\n"), (("if", A, (PASS, ("do", B)), ()),))
        self.assertEqual(tree_of("if a:\n  pass\n\nelse:\n \n  b"), (("if", A, (PASS,), (("do", B),)),))


class Bounds(unittest.TestCase):
    def test_six_hundred_rows(self):
        self.assertEqual(tree_of("\n".join(["a = b"] * 600)), (("set", "a", B),) * 600)
        self.assertEqual(tree_of("\n".join(["if a:", "  b"] * 300)), (("if", A, (("do", B),), ()),) * 300)
        self.assertEqual(tree_of("while a:\n" + "\n".join(["  b"] * 599)), (("while", A, (("do", B),) * 599),))

    def test_rows_of_two_hundred_signs(self):
        row = "a = [" + ", ".join(['"' + "x" * 40 + '"'] * 4)
        row = row + " " * (199 - len(row)) + "]"
        self.assertEqual(len(row), 200)
        self.assertEqual(tree_of(row), (("set", "a", ("list", (("text", "x" * 40),) * 4)),))
        self.assertEqual(tree_of("a" + " " * 199), (("do", A),))
        self.assertEqual(tree_of(" " * 200 + "\na"), (("do", A),))

    def test_ten_blocks_within_one_another(self):
        for head in ("if a:", "while a:", "for a in b:", "deed f():", "kind K():"):
            tree = tree_of("\n".join("  " * at + head for at in range(10)) + "\n" + "  " * 10 + "pass")
            for _ in range(10):
                self.assertEqual(len(tree), 1)
                block = tree[0]
                tree = block[2] if block[0] == "if" else block[-1]
            self.assertEqual(tree, (PASS,))

    def test_ten_tries_within_one_another(self):
        rows = ["  " * at + "try:" for at in range(10)] + ["  " * 10 + "pass"]
        for at in reversed(range(10)):
            rows += ["  " * at + "except A:", "  " * at + "  pass"]
        tree = PASS
        for _ in range(10):
            tree = ("try", (tree,), (("A", None, (PASS,)),), (), ())
        self.assertEqual(tree_of("\n".join(rows)), (tree,))

    def test_somewhat_beyond_is_no_refusal(self):
        deep = "\n".join("  " * at + "if a:" for at in range(14)) + "\n" + "  " * 14 + "pass"
        self.assertEqual(text_of(tree_of(deep)), deep)
        self.assertEqual(len(tree_of("\n".join(["pass"] * 900))), 900)
        self.assertEqual(tree_of("a" + " " * 400 + "= b"), (("set", "a", B),))

    def test_eight_names(self):
        names = tuple("abcdefgh")
        self.assertEqual(tree_of("deed f(a, b, c, d, e, f, g, h):\n  pass"), (("deed", "f", names, (PASS,)),))
        self.assertEqual(tree_of("kind K(a, b, c, d, e, f, g, h):\n  pass"), (("kind", "K", names, (PASS,)),))

    def test_eight_parts_pairs_and_brackets(self):
        for text in ("[a, a, a, a, a, a, a, a]", "f(a, a, a, a, a, a, a, a)", "{" + ", ".join(["a: a"] * 8) + "}",
                     "[" * 8 + "]" * 8, "a" + ".x" * 8, "a" + "[a]" * 8):
            for form in ("say E", "a = E", "raise E from E", "E", "let go a[0]\nE", "if E:\n  E", "for a in E:\n  E"):
                if not (form == "let go a[0]\nE" and text[:8] == "[" * 8):
                    self.assertEqual(text_of(tree_of(form.replace("E", text))), form.replace("E", text))

    def test_eight_tails_ahead_of_the_sign_and_behind_let_go(self):
        seven = expr_of("a" + ".x" * 7)
        self.assertEqual(tree_of("a" + ".x" * 8 + " = b"), (("setfield", seven, "x", B),))
        self.assertEqual(tree_of("a" + ".x" * 7 + "[b] = b"), (("setitem", seven, B, B),))
        self.assertEqual(tree_of("let go a" + ".x" * 8), (("dropfield", seven, "x"),))
        self.assertEqual(tree_of("let go a" + ".x" * 7 + "[b]"), (("dropitem", seven, B),))

    def test_eight_brackets_ahead_of_the_sign_and_behind_let_go(self):
        seven = "[" * 7 + "]" * 7
        self.assertEqual(tree_of("a[" + seven + "] = b"), (("setitem", A, expr_of(seven), B),))
        self.assertEqual(tree_of("let go a[" + seven + "]"), (("dropitem", A, expr_of(seven)),))


class Writing(unittest.TestCase):
    def test_each_form_is_written_as_it_is_told(self):
        for text, tree in SIMPLE + BLOCKS:
            with self.subTest(text):
                self.assertEqual(text_of((tree,)), text)

    def test_the_rows_that_the_point_shows(self):
        for row in ('a.b[c] = f(a, [b, c], {"k": 1, 2: []})', "say (not (a + super.f(b)))", "raise a from b",
                    "let go a.b"):
            self.assertEqual(text_of(tree_of(row)), row)
        for row in ("deed f(a, b):", "kind K():"):
            self.assertEqual(text_of(tree_of(row + "\n  pass")), row + "\n  pass")
        text = "try:\n  pass\nexcept A as b:\n  pass"
        self.assertEqual(text_of(tree_of(text)), text)

    def test_every_expression(self):
        for text in ("0", "999999999", '""', '" a  b "', "yes", "no", "none", "ask", "a", "[]", "[a]", "[a, 1, []]",
                     "{}", "{a: b}", '{"k": 1, 2: []}', "(a + b)", "(a - b)", "(a * b)", "(a < b)", "(a == b)",
                     "(a and b)", "(a or b)", "(not a)", "pull(a)", "size([a])", "super.f()", "super.f(a, b)", "a.b",
                     "a[b]", "a()", "a(b, c)", "a.b[c](a)(b)[c].a", "((a + b) * (not (c < 1)))"):
            self.assertEqual(text_of((("do", expr_of(text)),)), text)
            self.assertEqual(text_of(tree_of("a[" + text + "] = " + text)), "a[" + text + "] = " + text)

    def test_nothing_is_the_empty_text(self):
        self.assertEqual(text_of(()), "")

    def test_rows_are_parted_by_line_feeds_with_none_behind(self):
        self.assertEqual(text_of((PASS, PASS, PASS)), "pass\npass\npass")
        self.assertEqual(text_of(tree_of("\n\nif a:\n\n  b\n\n")), "if a:\n  b")

    def test_indents(self):
        text = "if a:\n  while b:\n    for c in a:\n      pass\n    b\n  c\nelse:\n  deed f():\n    give a\na"
        self.assertEqual(text_of(tree_of(text)), text)

    def test_what_is_written_is_read_to_the_same_tree(self):
        chance = random.Random(45)
        for _ in range(300):
            tree = made_rows(chance, chance.choice((0, 1, 2, 3)), 4)
            text = text_of(tree)
            self.assertEqual(tree_of(text), tree)
            self.assertEqual(text_of(tree_of(text)), text)
            self.assertTrue(all(row == row.rstrip(" ") and row for row in text.split("\n")))

    def test_blanks_and_rows_of_blanks_change_no_tree(self):
        chance = random.Random(46)
        for _ in range(100):
            tree = made_rows(chance, 2, 3)
            rows = []
            for row in text_of(tree).split("\n"):
                rows += [" " * chance.randint(0, 5)] * chance.randint(0, 2) + [row + " " * chance.randint(0, 3)]
            self.assertEqual(tree_of("\n".join(rows)), tree)


if __name__ == "__main__":
    unittest.main()
