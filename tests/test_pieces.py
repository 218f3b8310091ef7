"""Promise [2]: rows and pieces."""

import itertools
import re
import unittest

from snakehall.errors import BadRow, BadTree, HallError
from snakehall.pieces import pieces_of

WORDS = (
    "say ask if else while for in break next deed kind give hand try except as finally raise from outer let go "
    "pass sweep yes no none and or not super pull size"
).split()
SIGNS = "( ) [ ] { } , . : = == + - * <".split()
LETTERS = "abcdefghijklmnopqrstuvwxyz" + "ABCDEFGHIJKLMNOPQRSTUVWXYZ"
FIGURES = "0123456789"
TEXT_SIGNS = "".join(chr(code) for code in range(32, 127) if chr(code) not in '"%')


def name(text):
    return ("name", text)


def word(text):
    return ("word", text)


def number(told):
    return ("number", told)


def text(told):
    return ("text", told)


def sign(told):
    return ("sign", told)


def told_or_none(row):
    """What pieces_of tells, None where it refuses."""
    try:
        return pieces_of(row)
    except BadRow:
        return None


def expected(row):
    """What the promise says of a row, by another way than the program's: None where it is refused."""
    blanks = len(row) - len(row.lstrip(" "))
    pieces = []
    rest = row
    while rest.strip(" "):
        rest = rest.lstrip(" ")
        found = re.match(r'[A-Za-z0-9]+|"[^"%\n\t]{0,40}"|==|[()\[\]{},.:=+*<-]', rest)
        if not found:
            return None
        part = found.group()
        rest = rest[len(part):]
        if re.fullmatch(r"[A-Za-z][A-Za-z0-9]{0,11}", part):
            pieces.append(("word" if part in WORDS else "name", part))
        elif re.fullmatch(r"0|[1-9][0-9]{0,8}", part):
            pieces.append(number(int(part)))
        elif part[0] == '"':
            pieces.append(text(part[1:-1]))
        elif part in SIGNS:
            pieces.append(sign(part))
        else:
            return None
    return (blanks, pieces) if pieces else None


class OrdinaryRows(unittest.TestCase):
    def test_a_row_of_all_sorts(self):
        self.assertEqual(
            pieces_of('    say f(total, 12, "a b") + [yes]'),
            (4, [word("say"), name("f"), sign("("), name("total"), sign(","), number(12), sign(","), text("a b"),
                 sign(")"), sign("+"), sign("["), word("yes"), sign("]")]),
        )

    def test_kinds_of_what_is_told(self):
        told = pieces_of('  a if 7 "t" =')
        self.assertIs(type(told), tuple)
        self.assertEqual(len(told), 2)
        self.assertIs(type(told[0]), int)
        self.assertIs(type(told[1]), list)
        for piece in told[1]:
            self.assertIs(type(piece), tuple)
            self.assertEqual(len(piece), 2)
        self.assertEqual([type(piece[1]) for piece in told[1]], [str, str, int, str, str])

    def test_every_word(self):
        for each in WORDS:
            with self.subTest(each):
                self.assertEqual(pieces_of(each), (0, [word(each)]))

    def test_all_words_in_one_row(self):
        self.assertEqual(pieces_of(" ".join(WORDS)), (0, [word(each) for each in WORDS]))

    def test_every_sign(self):
        for each in SIGNS:
            with self.subTest(each):
                self.assertEqual(pieces_of(each), (0, [sign(each)]))

    def test_all_signs_with_and_without_blanks(self):
        self.assertEqual(pieces_of(" ".join(SIGNS)), (0, [sign(each) for each in SIGNS]))
        side_by_side = [each for each in SIGNS if each != "="]
        self.assertEqual(pieces_of("".join(side_by_side)), (0, [sign(each) for each in side_by_side]))

    def test_letters_and_figures(self):
        for each in LETTERS:
            self.assertEqual(pieces_of(each), (0, [name(each)]))
        for each in FIGURES:
            self.assertEqual(pieces_of(each), (0, [number(int(each))]))
        self.assertEqual(pieces_of("aZ09"), (0, [name("aZ09")]))

    def test_blanks_ahead_are_counted(self):
        for blanks in (0, 1, 2, 3, 4, 20, 200):
            self.assertEqual(pieces_of(" " * blanks + "a"), (blanks, [name("a")]))

    def test_blanks_between_and_behind_count_for_nothing(self):
        self.assertEqual(pieces_of("a     =   1      "), (0, [name("a"), sign("="), number(1)]))
        self.assertEqual(pieces_of("  a=1 "), (2, [name("a"), sign("="), number(1)]))

    def test_no_blanks_where_two_can_not_run_together(self):
        self.assertEqual(
            pieces_of('a.b[0]={"k":1}'),
            (0, [name("a"), sign("."), name("b"), sign("["), number(0), sign("]"), sign("="), sign("{"), text("k"),
                 sign(":"), number(1), sign("}")]),
        )
        self.assertEqual(pieces_of('say"x"'), (0, [word("say"), text("x")]))
        self.assertEqual(pieces_of('7"x"a'), (0, [number(7), text("x"), name("a")]))
        self.assertEqual(pieces_of('"x""y"'), (0, [text("x"), text("y")]))
        self.assertEqual(pieces_of("1.2"), (0, [number(1), sign("."), number(2)]))
        self.assertEqual(pieces_of("-1"), (0, [sign("-"), number(1)]))

    def test_blanks_part_letters_and_figures(self):
        self.assertEqual(pieces_of("1 a"), (0, [number(1), name("a")]))
        self.assertEqual(pieces_of("0 1"), (0, [number(0), number(1)]))
        self.assertEqual(pieces_of("le t"), (0, [name("le"), name("t")]))

    def test_texts_keep_all_that_stands_in_them(self):
        self.assertEqual(pieces_of('" if == 01 "'), (0, [text(" if == 01 ")]))
        for each in TEXT_SIGNS:
            with self.subTest(each):
                self.assertEqual(pieces_of('"' + each + '"'), (0, [text(each)]))

    def test_what_was_told_is_the_askers_own(self):
        first = pieces_of("a = 1")
        first[1].append(name("b"))
        first[1][0] = name("c")
        second = pieces_of("a = 1")
        self.assertEqual(second, (0, [name("a"), sign("="), number(1)]))
        self.assertIsNot(first[1], second[1])
        self.assertIsNot(second[1], pieces_of("a = 1")[1])


class Edges(unittest.TestCase):
    def test_names_of_one_and_of_twelve(self):
        for each in ("a", "Z", "abcdefghijkl", "a12345678901", "A" * 12):
            self.assertEqual(pieces_of(each), (0, [name(each)]))

    def test_numbers_of_one_and_of_nine_figures(self):
        self.assertEqual(pieces_of("0"), (0, [number(0)]))
        self.assertEqual(pieces_of("9"), (0, [number(9)]))
        self.assertEqual(pieces_of("10"), (0, [number(10)]))
        self.assertEqual(pieces_of("100000000"), (0, [number(100000000)]))
        self.assertEqual(pieces_of("999999999"), (0, [number(999999999)]))

    def test_a_number_is_no_truth(self):
        for row in ("0", "1"):
            self.assertIs(type(pieces_of(row)[1][0][1]), int)

    def test_texts_of_none_and_of_forty_signs(self):
        self.assertEqual(pieces_of('""'), (0, [text("")]))
        self.assertEqual(pieces_of('"' + "x" * 40 + '"'), (0, [text("x" * 40)]))
        self.assertEqual(pieces_of('"' + " " * 40 + '"'), (0, [text(" " * 40)]))

    def test_names_that_begin_with_a_word_or_are_nearly_one(self):
        for each in ("sayer", "if1", "orb", "nothing", "supersize", "inn", "If", "NONE", "Say", "sa"):
            self.assertEqual(pieces_of(each), (0, [name(each)]))

    def test_equal_signs(self):
        self.assertEqual(pieces_of("=="), (0, [sign("==")]))
        self.assertEqual(pieces_of("= ="), (0, [sign("="), sign("=")]))
        self.assertEqual(pieces_of("=== "), (0, [sign("=="), sign("=")]))
        self.assertEqual(pieces_of("===="), (0, [sign("=="), sign("==")]))
        self.assertEqual(pieces_of("= == ="), (0, [sign("="), sign("=="), sign("=")]))
        self.assertEqual(pieces_of("a=b==c"), (0, [name("a"), sign("="), name("b"), sign("=="), name("c")]))

    def test_a_blank_within_a_text_is_no_blank_ahead(self):
        self.assertEqual(pieces_of('  " a"'), (2, [text(" a")]))


class Refused(unittest.TestCase):
    def refused(self, row):
        with self.subTest(row), self.assertRaises(BadRow) as caught:
            pieces_of(row)
        error = caught.exception
        self.assertEqual(error.row, 0)
        self.assertIs(type(error.row), int)
        self.assertIsInstance(error, HallError)
        self.assertIsInstance(error, ValueError)
        self.assertNotIsInstance(error, BadTree)

    def test_names_too_long(self):
        for row in ("a" * 13, "abcdefghijklm", "a123456789012", "say " + "b" * 13, "a" * 200):
            self.refused(row)

    def test_numbers_that_are_none(self):
        for row in ("1234567890", "1000000000", "01", "00", "007", "1a", "0a", "12b3", "1if", "a = 01"):
            self.refused(row)

    def test_texts_that_are_none(self):
        for row in ('"' + "x" * 41 + '"', '"', '"abc', 'a"', '"a" "', 'say "a" + "', '"""'):
            self.refused(row)

    def test_texts_of_signs_that_belong_to_none(self):
        for row in ('"a%"', '"a\tb"', '"a\nb"', '"\x7f"', '"\u00e4"'):
            self.refused(row)

    def test_signs_that_are_none(self):
        for each in "!#$%&'/;>?@\\^_`|~":
            self.refused(each)
            self.refused("a " + each + " b")
        for row in ("\t", "\ta", "a\t", "a\n", "\na", "a_b", "a!=b", "\u00e4", "\u0663", "\u00b2", "a\u00a0"):
            self.refused(row)

    def test_rows_without_any_piece(self):
        for row in ("", " ", "    ", " " * 200):
            self.refused(row)

    def test_a_bad_piece_anywhere(self):
        self.refused("1a = 2")
        self.refused("a 1b c")
        self.refused("(a + 01)")


class AllShortRows(unittest.TestCase):
    def test_against_another_reading_of_the_promise(self):
        for length in range(5):
            for signs in itertools.product('oz10 ="-_', repeat=length):
                row = "".join(signs)
                self.assertEqual(told_or_none(row), expected(row), row)

    def test_all_pairs_of_pieces_side_by_side(self):
        parts = WORDS + SIGNS + ["a", "name", "Q7", "0", "5", "41", '""', '"x y"']
        for one, other in itertools.product(parts, repeat=2):
            for between in ("", " ", "   "):
                row = " " + one + between + other + " "
                self.assertEqual(told_or_none(row), expected(row), row)


if __name__ == "__main__":
    unittest.main()
