"""Promise [7]: trees that are looked over."""

import random
import unittest

from samples import PASS, made_rows
from snakehall.errors import BadRow, BadTree, HallError
from snakehall.naming import looked, own_names, statements
from snakehall.trees import tree_of

METHOD = "kind K():\n  deed m(self):\n    "


class Looking(unittest.TestCase):
    def stands(self, *texts):
        for text in texts:
            with self.subTest(text):
                self.assertIs(looked(tree_of(text)), True)

    def refused(self, place, text):
        with self.subTest(text), self.assertRaises(BadTree) as caught:
            looked(tree_of(text))
        error = caught.exception
        self.assertEqual(error.place, place, text)
        self.assertIs(type(error.place), int)
        self.assertIsInstance(error, HallError)
        self.assertNotIsInstance(error, BadRow)


class WhatStands(Looking):
    def test_nothing(self):
        self.assertIs(looked(()), True)

    def test_a_program_of_all_sorts(self):
        self.stands(
            "a = 1\nsay a\nlet go a\nsweep\nraise\nraise a from b\na.b = c\na[b] = c\nlet go a.b\nlet go a[b]\n"
            "deed f(x):\n  y = 0\n  deed g():\n    outer y\n    y = x\n    hand y\n  give g\n"
            "while a:\n  for b in c:\n    if b:\n      break\n    else:\n      next\n  break\n"
            "kind K(A, A):\n  z = 1\n  pass\n  deed m(self):\n    give super.m()\n"
            "try:\n  f(1)\nexcept K as k:\n  raise\nelse:\n  pass\nfinally:\n  pass"
        )


class GiveAndHand(Looking):
    def test_in_a_deed(self):
        for word in ("give", "hand"):
            self.stands(
                "deed f():\n  " + word + " 1",
                "deed f():\n  if a:\n    while b:\n      try:\n        pass\n      finally:\n        " + word + " 1",
                METHOD + word + " self",
                "deed f():\n  kind K():\n    deed m():\n      " + word + " 1",
            )

    def test_outside_of_a_deed(self):
        for word in ("give", "hand"):
            self.refused(0, word + " 1")
            self.refused(2, "a\nb\n" + word + " 1")
            self.refused(1, "while a:\n  " + word + " 1")
            self.refused(3, "if a:\n  b\nelse:\n  c\n  " + word + " 1")
            self.refused(2, "deed f():\n  pass\n" + word + " 1")
            self.refused(5, "try:\n  a\nexcept A:\n  b\nexcept B:\n  c\nelse:\n  d\nfinally:\n  " + word + " 1")


class Outer(Looking):
    def test_a_name_of_a_deed_further_out(self):
        for text in ("x = 1", "let go x", "for x in y:\n  pass", "deed x():\n  pass", "kind x():\n  pass",
                     "try:\n  pass\nexcept A as x:\n  pass", "if a:\n  while b:\n    x = 1"):
            rows = "\n".join("  " + row for row in text.split("\n"))
            self.stands("deed f():\n" + rows + "\n  deed g():\n    outer x",
                        "deed f():\n  deed g():\n    outer x\n" + rows)
        self.stands(
            "deed f(x):\n  deed g():\n    outer x",
            "deed f(x):\n  deed g():\n    deed h():\n      outer x",
            "deed f(x):\n  deed g():\n    outer x\n    deed h():\n      outer x",
            "deed f(x):\n  kind K():\n    deed m(self):\n      outer x",
            "deed f(x):\n  deed g():\n    if a:\n      while b:\n        outer x\n    x = 1",
            "deed f(x):\n  deed g():\n    x = 1\n    outer x",
            "deed f(x):\n  deed g(y):\n    outer x\n    outer x",
        )

    def test_outside_of_a_deed(self):
        self.refused(0, "outer x")
        self.refused(1, "x = 1\nouter x")
        self.refused(1, "while a:\n  outer x")
        self.refused(2, "deed f(x):\n  pass\nouter x")

    def test_a_parameter_of_the_nearest_deed(self):
        self.refused(1, "deed f(x):\n  outer x")
        self.refused(2, "deed f(x):\n  deed g(x):\n    outer x")
        self.refused(3, "deed f(x):\n  deed g(y, x):\n    if y:\n      outer x")

    def test_a_name_that_no_deed_further_out_has(self):
        self.refused(1, "deed f():\n  outer x")
        self.refused(2, "deed f():\n  x = 1\n  outer x")
        self.refused(2, "x = 1\ndeed f():\n  outer x")
        self.refused(2, "deed f():\n  deed g():\n    outer x")
        self.refused(3, "x = 1\ndeed f():\n  deed g():\n    outer x\nx = 1")
        self.refused(3, "deed f():\n  deed g():\n    x = 1\n    outer x")
        self.refused(4, "deed f():\n  deed g(x):\n    y = x\n  deed h():\n    outer x\n    x = 1")
        self.refused(4, "deed f():\n  kind K():\n    x = 1\n    deed m(self):\n      outer x")
        self.refused(3, "deed f():\n  deed g():\n    x.y = 1\n    outer x\n  say x")

    def test_a_name_that_is_told_outer_there_too(self):
        self.refused(2, "deed f():\n  deed g():\n    outer x\n    deed h():\n      outer x\n  say x")
        self.refused(1, "deed f():\n  outer x\n  x = 1\n  deed g():\n    outer x")


class BreakAndNext(Looking):
    def test_in_a_loop(self):
        for word in ("break", "next"):
            self.stands(
                "while a:\n  " + word, "for a in b:\n  " + word,
                "while a:\n  if b:\n    " + word + "\n  else:\n    " + word,
                "while a:\n  try:\n    " + word + "\n  except A:\n    " + word + "\n  else:\n    " + word
                + "\n  finally:\n    " + word,
                "deed f():\n  while a:\n    " + word,
                "while a:\n  for b in c:\n    d\n  " + word,
            )

    def test_outside_of_a_loop(self):
        for word in ("break", "next"):
            self.refused(0, word)
            self.refused(2, "while a:\n  b\n" + word)
            self.refused(1, "if a:\n  " + word)
            self.refused(1, "deed f():\n  " + word)
            self.refused(4, "for a in b:\n  c\nif a:\n  pass\nelse:\n  " + word)

    def test_in_a_loop_around_the_deed(self):
        for word in ("break", "next"):
            self.refused(2, "while a:\n  deed f():\n    " + word)
            self.refused(3, "for a in b:\n  deed f():\n    if c:\n      " + word)
            self.refused(3, "while a:\n  kind K():\n    deed m(self):\n      " + word)


class KindsRows(Looking):
    def test_what_stands(self):
        self.stands("kind K():\n  pass", "kind K():\n  x = 1\n  deed f():\n    say 1\n  pass\n  x = 2",
                    "deed f():\n  while a:\n    kind K():\n      x = 1")

    def test_what_does_not(self):
        for row in ("x.y = 1", "x[y] = 1", "say 1", "x", "give 1", "hand 1", "raise", "raise x", "raise x from y",
                    "let go x", "let go x.y", "let go x[y]", "outer x", "break", "next", "sweep", "if a:\n    pass",
                    "while a:\n    pass", "for a in b:\n    pass", "kind L():\n    pass",
                    "try:\n    pass\n  finally:\n    pass"):
            self.refused(1, "kind K():\n  " + row)
            self.refused(3, "kind K():\n  x = 1\n  pass\n  " + row + "\nbreak")
            further = row.replace("\n", "\n    ")
            self.refused(3, "deed f(x):\n  while a:\n    kind K():\n      " + further)

    def test_deeds_in_its_rows_are_deeds_like_others(self):
        self.stands(METHOD + "say 1\n    while a:\n      break\n    kind L():\n      pass")


class Super(Looking):
    def test_in_each_form(self):
        for row in ("x = super.f()", "x.y = super.f()", "super.f().y = 1", "x[y] = super.f()", "x[super.f()] = 1",
                    "super.f()[y] = 1", "say super.f()", "super.f()", "give super.f()", "hand super.f()",
                    "raise super.f()", "raise super.f() from x", "raise x from super.f()", "let go super.f().x",
                    "let go super.f()[x]", "let go x[super.f()]", "if super.f():\n      pass",
                    "while super.f():\n      pass", "for x in super.f():\n      pass"):
            self.stands(METHOD + row)
            self.refused(1, "deed f(self):\n  " + row.replace("give ", "say ").replace("\n      ", "\n    "))
            if row.split(" ")[0] not in ("give", "hand"):
                self.refused(0, row.replace("\n      ", "\n  "))

    def test_however_deep_in_an_expression(self):
        for text in ("[super.f()]", "{super.f(): 1}", "{1: super.f()}", "(super.f() + 1)", "(1 + super.f())",
                     "(a and super.f())", "(not super.f())", "pull(super.f())", "size(super.f())", "super.f().x",
                     "a[super.f()]", "super.f()[a]", "a(super.f())", "a(1, [2, (3 - super.f(4))])", "super.f()()",
                     "a.b(super.f(c)).d"):
            self.stands(METHOD + "say " + text)
            self.refused(0, "say " + text)

    def test_texts_and_names_that_look_like_it(self):
        self.stands('say "super"', 'say ["super", "super.f()"]', "say superb", "say a.supers", '"super"',
                    'say {"super": "super"}', 'a("super")')

    def test_the_nearest_deed_must_stand_in_a_kinds_rows(self):
        self.refused(3, METHOD + "deed g(self):\n      super.f()")
        self.refused(1, "deed f(self):\n  super.f()")
        self.refused(3, "kind K():\n  deed m(self):\n    pass\nsuper.f()")
        self.refused(2, "deed f(self):\n  if a:\n    super.f()")
        self.stands("deed f():\n  kind K():\n    deed m(self):\n      super.f()",
                    "deed f():\n  while a:\n    kind K():\n      deed m(self):\n        if b:\n          super.f()")

    def test_the_nearest_deed_must_have_a_parameter(self):
        self.refused(2, "kind K():\n  deed m():\n    super.f()")
        self.stands("kind K():\n  deed m(a, b):\n    super.f()")
        self.refused(4, METHOD + "kind L():\n      deed n():\n        super.f()")

    def test_in_a_set_of_a_kinds_rows(self):
        self.refused(1, "kind K():\n  x = super.f()")
        self.refused(2, "deed f(self):\n  kind K():\n    x = super.f()")
        self.stands(METHOD + "kind L():\n      x = super.f()")
        self.refused(3, "kind K():\n  deed m():\n    kind L():\n      x = super.f()")
        self.refused(4, METHOD + "deed g(self):\n      kind L():\n        x = super.f()")

    def test_expressions_in_its_blocks_are_not_its_own(self):
        self.refused(1, "if a:\n  super.f()")
        self.refused(2, "while a:\n  for b in c:\n    super.f()")
        self.refused(2, "try:\n  a\nfinally:\n  super.f()")
        self.refused(2, "deed f():\n  a\n  super.f()")
        self.refused(4, "if a:\n  b\nelse:\n  c\n  d\n  super.f()")


class TheFirstOne(Looking):
    def test_of_several(self):
        self.refused(1, "a\nbreak\ngive 1\nouter x")
        self.refused(2, "if a:\n  b\n  next\nelse:\n  give 1\nbreak")
        self.refused(1, "kind K():\n  while super.f():\n    break")

    def test_in_the_arms_of_a_try(self):
        arms = ["try:\n  a\n", "except A:\n  b\n", "except B as x:\n  c\n", "else:\n  d\n", "finally:\n  e"]
        for at in range(5):
            rows = list(arms)
            rows[at] = rows[at].rstrip("\n")[:-1] + "break\n"
            self.refused(at + 1, "".join(rows))

    def test_behind_all_that_stands_ahead(self):
        for many in (0, 1, 10, 598):
            self.refused(many, "\n".join(["pass"] * many + ["break"]))

    def test_the_tree_is_not_changed(self):
        tree = tree_of("deed f(a):\n  give a")
        self.assertIs(looked(tree), True)
        self.assertEqual(tree, tree_of("deed f(a):\n  give a"))


def first_wrong(tree):
    """Another reading of the promise: the number of the first wrong statement, None where all stand."""
    told = statements(tree)
    around = {}
    mark(tree, (), around, [0])
    for number, statement in enumerate(told):
        if is_wrong(statement, around[number]):
            return number
    return None


def mark(rows, ways, around, count):
    """Notes all statements around each statement, the outermost first."""
    for statement in rows:
        around[count[0]] = ways
        count[0] += 1
        for part in statement:
            if type(part) is tuple:
                mark_blocks(part, ways + (statement,), around, count)


FORMS = ("set setfield setitem say do give hand again raise drop dropfield dropitem outer break next pass sweep if while "
         "for deed kind try").split()


def mark_blocks(part, ways, around, count):
    # Rows of statements are told apart from names and expressions by what stands in them.
    if part and all(type(each) is tuple and each and each[0] in FORMS for each in part):
        mark(part, ways, around, count)
    elif part and all(type(each) is tuple and len(each) == 3 and type(each[2]) is tuple for each in part):
        if ways[-1][0] == "try":
            for kind, name, rows in part:
                mark(rows, ways, around, count)


def is_wrong(statement, ways):
    form = statement[0]
    deeds = [at for at, way in enumerate(ways) if way[0] == "deed"]
    in_kind = bool(ways) and ways[-1][0] == "kind"
    since = ways[deeds[-1] + 1:] if deeds else ways
    if in_kind and form not in ("deed", "set", "pass"):
        return True
    if form in ("give", "hand") and not deeds:
        return True
    if form in ("break", "next"):
        return not any(way[0] in ("while", "for") for way in since)
    if form == "outer":
        if not deeds or statement[1] in ways[deeds[-1]][2]:
            return True
        return not any(statement[1] in own_names(ways[at][3], ways[at][2]) for at in deeds[:-1])
    if form in ("deed", "kind", "try") or "'super'" not in repr(own_part(statement)):
        return False
    if not deeds or not ways[deeds[-1]][2]:
        return True
    return not (deeds[-1] and ways[deeds[-1] - 1][0] == "kind")


def own_part(statement):
    return statement[:2] if statement[0] in ("if", "while") else statement[:3] if statement[0] == "for" else statement


class ManyTrees(unittest.TestCase):
    def test_against_another_reading(self):
        chance = random.Random(7)
        seen = {True: 0, False: 0}
        for _ in range(1500):
            tree = made_rows(chance, 4, 3)
            if chance.random() < 0.6:
                # Much that is refused is wrapped, so that it may stand.
                tree = (("deed", "f", ("a", "b"), (("deed", "g", (), (("while", ("yes",), tree),)),)),)
            if chance.random() < 0.3:
                tree = (("kind", "K", (), (("deed", "m", ("self",), (("for", "i", ("ask",), tree),)),)),)
            place = first_wrong(tree)
            seen[place is None] += 1
            if place is None:
                self.assertIs(looked(tree), True)
            else:
                with self.assertRaises(BadTree) as caught:
                    looked(tree)
                self.assertEqual(caught.exception.place, place)
        self.assertGreater(min(seen.values()), 100)

    def test_passes_stand_everywhere(self):
        self.assertIs(looked((PASS,) * 600), True)


if __name__ == "__main__":
    unittest.main()
