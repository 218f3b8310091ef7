"""Promise [3]: expressions."""

import random
import unittest

from snakehall.exprs import expr_of

A = ("name", "a")
B = ("name", "b")
C = ("name", "c")
OPERATORS = ("+", "-", "*", "<", "==", "and", "or")
WORDS = (
    "say ask if else while for in break next deed kind give hand try except as finally raise from outer let go "
    "pass sweep yes no none and or not super pull size"
).split()
# One of each form, with its tree.
FORMS = (
    ("7", ("number", 7)),
    ('"t"', ("text", "t")),
    ("yes", ("yes",)),
    ("no", ("no",)),
    ("none", ("none",)),
    ("ask", ("ask",)),
    ("a", A),
    ("[a, b]", ("list", (A, B))),
    ("{a: b}", ("table", ((A, B),))),
    ("(a + b)", ("+", A, B)),
    ("(a - b)", ("-", A, B)),
    ("(a * b)", ("*", A, B)),
    ("(a < b)", ("<", A, B)),
    ("(a == b)", ("==", A, B)),
    ("(a and b)", ("and", A, B)),
    ("(a or b)", ("or", A, B)),
    ("(not a)", ("not", A)),
    ("pull(a)", ("pull", A)),
    ("size(a)", ("size", A)),
    ("super.f(a, b)", ("super", "f", (A, B))),
)


def row_of(many):
    return ", ".join(["a"] * many)


def pairs_of(many):
    return ", ".join(["a: b"] * many)


def only_told_kinds(tree):
    """Whether a tree is of tuples, texts and whole numbers through and through."""
    if type(tree) is tuple:
        return all(only_told_kinds(part) for part in tree)
    return type(tree) in (str, int)


class Ordinary(unittest.TestCase):
    def test_each_form(self):
        for text, tree in FORMS:
            with self.subTest(text):
                self.assertEqual(expr_of(text), tree)
                self.assertTrue(only_told_kinds(expr_of(text)))

    def test_each_tail_behind_each_form(self):
        for text, tree in FORMS:
            with self.subTest(text):
                self.assertEqual(expr_of(text + ".x"), ("field", tree, "x"))
                self.assertEqual(expr_of(text + "[c]"), ("item", tree, C))
                self.assertEqual(expr_of(text + "()"), ("call", tree, ()))
                self.assertEqual(expr_of(text + "(c)"), ("call", tree, (C,)))
                self.assertEqual(expr_of(text + "(c, 1)"), ("call", tree, (C, ("number", 1))))

    def test_each_form_within_each_tail(self):
        for text, tree in FORMS:
            with self.subTest(text):
                self.assertEqual(expr_of("a[" + text + "]"), ("item", A, tree))
                self.assertEqual(expr_of("a(" + text + ", " + text + ")"), ("call", A, (tree, tree)))

    def test_each_form_within_each_bracketed_form(self):
        for text, tree in FORMS:
            with self.subTest(text):
                self.assertEqual(expr_of("[" + text + "]"), ("list", (tree,)))
                self.assertEqual(expr_of("{" + text + ": " + text + "}"), ("table", ((tree, tree),)))
                self.assertEqual(expr_of("(not " + text + ")"), ("not", tree))
                self.assertEqual(expr_of("pull(" + text + ")"), ("pull", tree))
                self.assertEqual(expr_of("size(" + text + ")"), ("size", tree))
                self.assertEqual(expr_of("super.f(" + text + ")"), ("super", "f", (tree,)))
                for operator in OPERATORS:
                    whole = "(" + text + " " + operator + " " + text + ")"
                    self.assertEqual(expr_of(whole), (operator, tree, tree))

    def test_tails_behind_one_another(self):
        self.assertEqual(
            expr_of("a.b[c](1)"),
            ("call", ("item", ("field", A, "b"), C), (("number", 1),)),
        )
        self.assertEqual(expr_of("a()()"), ("call", ("call", A, ()), ()))
        self.assertEqual(expr_of("a[0][1]"), ("item", ("item", A, ("number", 0)), ("number", 1)))
        self.assertEqual(expr_of("super.f().g"), ("field", ("super", "f", ()), "g"))
        self.assertEqual(expr_of("super.f()()"), ("call", ("super", "f", ()), ()))

    def test_order_of_parts(self):
        self.assertEqual(expr_of("(1 - 2)"), ("-", ("number", 1), ("number", 2)))
        self.assertEqual(expr_of("((1 - 2) - 3)"), ("-", ("-", ("number", 1), ("number", 2)), ("number", 3)))
        self.assertEqual(expr_of("(1 - (2 - 3))"), ("-", ("number", 1), ("-", ("number", 2), ("number", 3))))
        self.assertEqual(
            expr_of('{"k": 1, 2: []}'),
            ("table", ((("text", "k"), ("number", 1)), (("number", 2), ("list", ())))),
        )
        self.assertEqual(expr_of("[1, 2, 3]"), ("list", (("number", 1), ("number", 2), ("number", 3))))

    def test_blanks_count_for_nothing(self):
        for text in (" (a + b)", "(a + b)   ", "   (a + b) ", "(a+b)", "(  a  +  b  )"):
            self.assertEqual(expr_of(text), ("+", A, B))
        for text in ("a . b [ c ] ( a , b )", "a.b[c](a,b)", "  a .b [c] (a ,b)  "):
            self.assertEqual(expr_of(text), ("call", ("item", ("field", A, "b"), C), (A, B)))
        self.assertEqual(expr_of("pull (a)"), ("pull", A))
        self.assertEqual(expr_of(" super . f ( a ) "), ("super", "f", (A,)))
        self.assertEqual(expr_of("(a and(not b))"), ("and", A, ("not", B)))
        self.assertEqual(expr_of("{ a :b }"), ("table", ((A, B),)))

    def test_texts_of_signs_and_words_are_texts(self):
        for each in ("+", ",", "]", ")", "(", "[", "{", "not", "yes", "super", "pull", ".", ":", "", " "):
            told = ("text", each)
            self.assertEqual(expr_of('"' + each + '"'), told)
            self.assertEqual(expr_of('["' + each + '", "' + each + '"]'), ("list", (told, told)))
            self.assertEqual(expr_of('("' + each + '" + a)'), ("+", told, A))
            self.assertEqual(expr_of('{"' + each + '": a}'), ("table", ((told, A),)))

    def test_numbers_are_whole_numbers(self):
        for text, number in (("0", 0), ("1", 1), ("999999999", 999999999)):
            self.assertEqual(expr_of(text), ("number", number))
            self.assertIs(type(expr_of(text)[1]), int)

    def test_asked_twice_it_tells_the_same(self):
        for text, tree in FORMS:
            self.assertEqual((expr_of(text), expr_of(text)), (tree, tree))


class Edges(unittest.TestCase):
    def test_empty_rows(self):
        self.assertEqual(expr_of("[]"), ("list", ()))
        self.assertEqual(expr_of("{}"), ("table", ()))
        self.assertEqual(expr_of("a()"), ("call", A, ()))
        self.assertEqual(expr_of("super.f()"), ("super", "f", ()))
        self.assertEqual(expr_of("[  ]"), ("list", ()))

    def test_rows_of_eight(self):
        self.assertEqual(expr_of("[" + row_of(8) + "]"), ("list", (A,) * 8))
        self.assertEqual(expr_of("a(" + row_of(8) + ")"), ("call", A, (A,) * 8))
        self.assertEqual(expr_of("super.f(" + row_of(8) + ")"), ("super", "f", (A,) * 8))
        self.assertEqual(expr_of("{" + pairs_of(8) + "}"), ("table", ((A, B),) * 8))

    def test_eight_tails_behind_each_form(self):
        for text, tree in FORMS:
            eight = tree
            for _ in range(8):
                eight = ("field", eight, "x")
            self.assertEqual(expr_of(text + ".x" * 8), eight)

    def test_eight_tails_of_all_sorts(self):
        tree = A
        for _ in range(2):
            tree = ("call", ("item", ("call", ("field", tree, "x"), ()), B), (C,))
        self.assertEqual(expr_of("a" + ".x()[b](c)" * 2), tree)
        for tail in ("()", "[b]", "(c)"):
            self.assertIsNotNone(expr_of("a" + tail * 8))

    def test_eight_tails_on_each_level(self):
        tails = ".x" * 8
        self.assertIsNotNone(expr_of("a" + tails[2:] + "[b" + tails + "]"))
        self.assertIsNotNone(expr_of("(a" + tails + " + b" + tails + ")" + tails))

    def test_eight_brackets_within_one_another(self):
        tree = A
        for _ in range(8):
            tree = ("list", (tree,))
        self.assertEqual(expr_of("[" * 8 + "a" + "]" * 8), tree)
        self.assertEqual(expr_of("[" * 8 + "]" * 8)[0], "list")
        for begin, end in (("(not ", ")"), ("(b + ", ")"), ("(", " + b)"), ("{b: ", "}"), ("{", ": b}"), ("pull(", ")"),
                           ("size(", ")"), ("super.f(", ")"), ("b(", ")"), ("b[", "]"), ("(b and ", ")")):
            self.assertIsNotNone(expr_of(begin * 8 + "a" + end * 8))

    def test_eight_brackets_of_all_sorts(self):
        self.assertEqual(
            expr_of("[{a: (not pull(size(super.f(b[c(1)]))))}]"),
            ("list", (("table", ((A, ("not", ("pull", ("size", ("super", "f", (("item", B, ("call", C, (
                ("number", 1),))),)))))),)),)),
        )

    def test_brackets_side_by_side_are_not_within_one_another(self):
        self.assertIsNotNone(expr_of("[" + ", ".join(["[]"] * 8) + "]"))
        seven = "[" * 7 + "]" * 7
        self.assertIsNotNone(expr_of("[" + ", ".join([seven] * 8) + "]"))
        self.assertIsNotNone(expr_of("a" + "[b]" * 8))
        eight = "[" * 8 + "]" * 8
        self.assertIsNotNone(expr_of(eight + eight))


class NoExpressions(unittest.TestCase):
    def none(self, *texts):
        for text in texts:
            with self.subTest(text):
                self.assertIsNone(expr_of(text))

    def test_a_ninth_part(self):
        self.none("[" + row_of(9) + "]", "a(" + row_of(9) + ")", "super.f(" + row_of(9) + ")")

    def test_a_ninth_pair(self):
        self.none("{" + pairs_of(9) + "}")

    def test_a_ninth_tail(self):
        for text, tree in FORMS:
            self.none(text + ".x" * 9)
        self.none("a" + "()" * 9, "a" + "[b]" * 9, "a" + ".x()[b]" * 3, "[a" + ".x" * 9 + "]")

    def test_a_ninth_bracket(self):
        for begin, end in (("[", "]"), ("(not ", ")"), ("(b + ", ")"), ("(", " + b)"), ("{b: ", "}"), ("{", ": b}"),
                           ("pull(", ")"), ("size(", ")"), ("super.f(", ")"), ("b(", ")"), ("b[", "]")):
            self.none(begin * 9 + "a" + end * 9)
            self.none("[" * 8 + begin + "a" + end + "]" * 8)
            self.none(begin + "[" * 8 + "]" * 8 + end)
        self.none("[" * 9 + "]" * 9, "[" * 8 + "a()" + "]" * 8, "[" * 8 + "{}" + "]" * 8)

    def test_a_ninth_bracket_behind_others_that_are_ended(self):
        for ended in ("[]", "[[], []]", "a()", "a[b]", "{}", "(not a)", "size(a)"):
            self.none("[" + ended + ", " + "[" * 8 + "]" * 8 + "]", "a[" + ended + "]" + "[" * 9 + "]" * 9)

    def test_brackets_far_too_deep(self):
        for bracket in ("[", "(", "{", "a(", "a[", "pull(", "(not "):
            self.none(bracket * 5000)

    def test_a_word_where_a_name_belongs(self):
        for each in WORDS:
            self.none("a." + each, "super." + each + "(a)")
            if each not in ("yes", "no", "none", "ask"):
                self.none(each, "[" + each + "]", "(a + " + each + ")")

    def test_no_name_behind_the_dot(self):
        self.none("a.", "a.1", 'a."b"', "a.[b]", "a..b", "super.(a)", "super.1(a)", ".a", "1.2")

    def test_words_that_need_more(self):
        self.none("super", "super.f", "super.f[a]", "super(a)", "super[a]", "super.f.g(a)", "pull", "size", "pull a",
                  "pull()", "size()", "pull(a, b)", "size(a, b)", "pull[a]", "pull.a", "not", "not a")

    def test_brackets_not_ended(self):
        self.none("[", "[a", "[a,", "[a, b", "(a + b", "(not a", "{", "{a: b", "{a: b,", "a(", "a(b", "a(b,", "a[b",
                  "pull(a", "size(a", "super.f(", "super.f(a", "[[a]", "(", "((a + b)")

    def test_brackets_ended_by_others(self):
        self.none("[a)", "(a + b]", "{a: b]", "a(b]", "a[b)", "[a}", "pull(a]", ")", "]", "}", "a)", "a]")

    def test_expressions_not_ended(self):
        self.none("(a +)", "(a + )", "(+ b)", "(a)", "()", "(not)", "(a and)", "{a}", "{a:}", "{:b}", "{a: b, c}",
                  "a[]", "(a b)", "(a + b + c)", "(a == b == c)", "(not a and b)", "(a not b)", "(a, b)")

    def test_commas(self):
        self.none("[a,]", "[,]", "[,a]", "[a,,b]", "[a b]", "a(b,)", "a(,)", "{a: b,}", "{,}", "a, b", "super.f(a,)",
                  "{a, b}", "[a: b]", "a[b, c]")

    def test_texts_are_no_signs(self):
        self.none('[a "," b]', '(a "+" b)', '"(" a + b)', '[a "]"', '{a ":" b}', 'a "." b', '("not" a)', 'a "[" b]',
                  '(a "and" b)')

    def test_signs_that_join_nothing(self):
        self.none("(a = b)", "(a = = b)", "(a : b)", "(a . 1)", "(a in b)", "(a , b)", "a + b", "a == b", "a = b",
                  "a and b", "-1", "(-1)", "(- a)", "+", "==", "*", "<", ",", ":", "=")

    def test_something_behind(self):
        for text, tree in FORMS:
            self.none(text + " a", text + " 1", text + ' "t"', text + " {}", text + ",", text + ":", text + "=",
                      text + " yes", text + "+ a", text + ")")

    def test_no_piece(self):
        self.none("1a", "01", "a" * 13, "1234567890", '"' + "x" * 41 + '"', '"a', "a_b", "(a > b)", "a!", "a\t", "a\n",
                  "[a; b]", "a.b@", "(a / b)", '"%"', "(a + 01)")

    def test_no_piece_at_all(self):
        self.none("", " ", "      ")


def made_tree(chance, depth):
    """A tree by a chance with a set beginning, with at most so many brackets within one another."""
    tree = made_head(chance, depth)
    for _ in range(chance.choice((0, 0, 0, 1, 2, 8))):
        form = chance.choice(("field", "item", "call") if depth else ("field",))
        if form == "field":
            tree = (form, tree, chance.choice(("x", "name", "sayer")))
        elif form == "item":
            tree = (form, tree, made_tree(chance, depth - 1))
        else:
            tree = (form, tree, made_row(chance, depth - 1))
    return tree


def made_head(chance, depth):
    simple = (("number", chance.choice((0, 1, 999999999))), ("text", chance.choice(("", "a b", ","))), ("yes",), ("no",),
              ("none",), ("ask",), ("name", chance.choice(("a", "Total", "x" * 12))))
    if not depth or chance.random() < 0.5:
        return chance.choice(simple)
    form = chance.choice(OPERATORS + ("not", "pull", "size", "list", "table", "super"))
    if form in OPERATORS:
        return (form, made_tree(chance, depth - 1), made_tree(chance, depth - 1))
    if form == "list":
        return (form, made_row(chance, depth - 1))
    if form == "table":
        return (form, tuple(zip(made_row(chance, depth - 1), made_row(chance, depth - 1))))
    if form == "super":
        return (form, "f", made_row(chance, depth - 1))
    return (form, made_tree(chance, depth - 1))


def made_row(chance, depth):
    return tuple(made_tree(chance, depth) for _ in range(chance.choice((0, 1, 2, 3))))


def parts_of(tree):
    """The texts of the pieces of a tree."""
    form = tree[0]
    if form in ("number", "name"):
        return [str(tree[1])]
    if form == "text":
        return ['"' + tree[1] + '"']
    if len(tree) == 1:
        return [form]
    if form == "not":
        return ["(", "not"] + parts_of(tree[1]) + [")"]
    if form in OPERATORS:
        return ["("] + parts_of(tree[1]) + [form] + parts_of(tree[2]) + [")"]
    if form in ("pull", "size"):
        return [form, "("] + parts_of(tree[1]) + [")"]
    if form == "list":
        return ["["] + joined([parts_of(part) for part in tree[1]]) + ["]"]
    if form == "table":
        return ["{"] + joined([parts_of(key) + [":"] + parts_of(value) for key, value in tree[1]]) + ["}"]
    if form == "super":
        return ["super", ".", tree[1], "("] + joined([parts_of(part) for part in tree[2]]) + [")"]
    if form == "field":
        return parts_of(tree[1]) + [".", tree[2]]
    if form == "item":
        return parts_of(tree[1]) + ["["] + parts_of(tree[2]) + ["]"]
    return parts_of(tree[1]) + ["("] + joined([parts_of(part) for part in tree[2]]) + [")"]


def joined(rows):
    told = []
    for at, row in enumerate(rows):
        told += ([","] if at else []) + row
    return told


class ManyTrees(unittest.TestCase):
    def test_written_and_read_they_are_the_same(self):
        chance = random.Random(3)
        for _ in range(600):
            tree = made_tree(chance, chance.choice((0, 1, 2, 3)))
            parts = parts_of(tree)
            self.assertEqual(expr_of(" ".join(parts)), tree)
            self.assertEqual(expr_of("   ".join([""] + parts + [""])), tree)

    def test_with_a_piece_less_or_more_they_are_never_the_same(self):
        chance = random.Random(4)
        for _ in range(150):
            tree = made_tree(chance, 2)
            parts = parts_of(tree)
            at = chance.randrange(len(parts))
            self.assertNotEqual(expr_of(" ".join(parts[:at] + parts[at + 1:])), tree)
            self.assertIsNone(expr_of(" ".join(parts + [parts[0]])))

    def test_unbalanced_brackets_are_none(self):
        chance = random.Random(5)
        for _ in range(150):
            parts = parts_of(made_tree(chance, 2))
            brackets = [at for at, part in enumerate(parts) if part in "()[]{}"]
            for at in brackets:
                self.assertIsNone(expr_of(" ".join(parts[:at] + parts[at + 1:])))


if __name__ == "__main__":
    unittest.main()
