"""Promise [15]: where names are sought, set and let go."""

import unittest

from programs import Programs


class Scopes(Programs):
    def test_names_of_the_program(self):
        self.says("a = 1\nsay a\na = (a + 1)\nsay a", "1", "2")
        self.fails("say a", "NoName", said=())
        self.fails("a = 1\nlet go a\nsay a", "NoName", said=())
        self.fails("let go a", "NoName")

    def test_names_of_the_program_are_read_in_deeds(self):
        self.says("deed f():\n  say a\na = 1\nf()\na = 2\nf()", "1", "2")
        self.fails("deed f():\n  say a\nf()", "NoName")

    def test_a_name_that_is_set_in_a_deed_is_its_own(self):
        self.says("a = 1\ndeed f():\n  a = 2\n  say a\nf()\nsay a", "2", "1")

    def test_an_own_name_is_sought_nowhere_else(self):
        self.fails("a = 1\ndeed f():\n  say a\n  a = 2\nf()", "NoName", said=())
        self.fails("a = 1\ndeed f():\n  if no:\n    a = 2\n  say a\nf()", "NoName", said=())
        self.fails("a = 1\ndeed f():\n  let go a\nf()", "NoName")
        self.fails("a = 1\ndeed f():\n  a = 2\n  let go a\n  say a\nf()", "NoName", said=())
        # A first kind is no help for a name that is a deed's own.
        self.fails("deed f():\n  say Error\n  Error = 1\nf()", "NoName", said=())

    def test_each_statement_that_makes_a_name_own(self):
        for row in ("a = 1", "let go a", "for a in []:\n    pass", "deed a():\n    pass", "kind a():\n    pass",
                    "try:\n    pass\n  except Error as a:\n    pass"):
            self.fails(f"a = 1\ndeed f():\n  say a\n  {row}\nf()", "NoName", said=())
        for row in ("a.x = 1", "a[0] = 1", "let go a.x", "deed b():\n    a = 1", "kind b():\n    a = 1"):
            self.assertEqual(self.run_text(f"a = 1\ndeed f():\n  say a\n  {row}\nf()").said, ["1"])

    def test_parameters(self):
        self.says("a = 1\ndeed f(a, b):\n  say a\n  a = b\n  say a\nf(2, 3)\nsay a", "2", "3", "1")
        self.fails("a = 1\ndeed f(a):\n  let go a\n  say a\nf(2)", "NoName", said=())

    def test_each_call_has_a_scope_of_its_own(self):
        self.says("""
            deed f(n):
              a = n
              if (0 < n):
                f((n - 1))
              say a
            f(2)
        """, "0", "1", "2")

    def test_deeds_within_deeds(self):
        self.says("""
            a = "program"
            deed f(p):
              a = "f"
              deed g(q):
                deed h():
                  say a
                  say p
                  say q
                give h
              give g
            h = f(1)(2)
            a = "later"
            h()
        """, "f", "1", "2")

    def test_the_nearest_deed_around_has_it(self):
        self.says("""
            deed f():
              a = "f"
              deed g():
                a = "g"
                deed h():
                  say a
                h()
              g()
              say a
            f()
        """, "g", "f")

    def test_a_name_of_a_deed_around_that_is_not_there(self):
        self.fails("""
            a = 1
            deed f():
              deed g():
                say a
              g()
              a = 2
            f()
        """, "NoName", said=())
        self.fails("""
            a = 1
            deed f():
              a = 2
              deed g():
                say a
              let go a
              g()
            f()
        """, "NoName", said=())

    def test_a_name_around_is_read_as_it_is_now(self):
        self.says("""
            deed f():
              a = 1
              deed g():
                say a
              g()
              a = 2
              g()
            f()
        """, "1", "2")

    def test_the_scope_around_is_where_the_deed_was_made(self):
        self.says("""
            deed f(a):
              deed g():
                give a
              give g
            one = f(1)
            two = f(2)
            deed h(a):
              give one()
            say one()
            say two()
            say h(3)
        """, "1", "2", "1")

    def test_outer(self):
        self.says("""
            deed f():
              a = 1
              deed g():
                outer a
                a = (a + 1)
                give a
              say g()
              say g()
              say a
            f()
        """, "2", "3", "3")

    def test_outer_passes_over_deeds_that_do_not_have_the_name(self):
        self.says("""
            deed f():
              a = 1
              deed g():
                deed h():
                  outer a
                  a = 5
                h()
              g()
              say a
            f()
        """, "5")
        self.says("""
            deed f():
              a = 1
              deed g():
                outer a
                deed h():
                  outer a
                  a = 5
                h()
              g()
              say a
            f()
        """, "5")

    def test_outer_of_each_statement(self):
        self.says("""
            deed f():
              a = 1
              deed g():
                outer a
                let go a
              g()
              try:
                say a
              except NoName:
                say "gone"
              deed h():
                outer a
                for a in [7, 8]:
                  pass
              h()
              say a
              deed i():
                outer a
                try:
                  raise Error("w")
                except Error as a:
                  pass
              i()
              say a.words
              deed j():
                outer a
                kind a():
                  pass
              j()
              say a
              deed k():
                outer a
                deed a():
                  pass
              k()
              say a
            f()
        """, "gone", "8", "w", "kind a", "deed a")

    def test_wherever_outer_stands(self):
        self.says("""
            deed f():
              a = 1
              deed g():
                a = 2
                if no:
                  outer a
              g()
              say a
            f()
        """, "2")

    def test_first_kinds_are_behind_the_names_of_the_program(self):
        self.says("say Error\nError = 5\nsay Error\nlet go Error\nsay Error", "kind Error", "5", "kind Error")
        self.says("deed f():\n  say NoName\nf()\nNoName = 1\nf()", "kind NoName", "1")
        self.says("kind Error():\n  pass\nsay Error()\nlet go Error\nsay Error()", "being Error", "being Error")
        self.fails("let go Error", "NoName")
        self.fails("Error = 1\nlet go Error\nlet go Error", "NoName")

    def test_errors_that_come_by_themselves_are_of_the_first_kinds(self):
        self.says("""
            first = NoName
            NoName = 5
            try:
              nothere
            except first as e:
              say e
        """, "being NoName")

    def test_names_in_a_kinds_rows_are_those_of_the_call_around(self):
        self.says("""
            x = "program"
            kind K():
              x = (x + "!")
              y = x
            say K.x
            say K.y
            say x
        """, "program!", "program", "program")
        self.says("""
            deed f(p):
              kind K():
                x = p
                deed g():
                  give p
              give K
            K = f(4)
            say K.x
            say K.g()
        """, "4", "4")
        self.fails("kind K():\n  x = 1\n  y = x", "NoName")
        self.fails("kind K():\n  x = 1\n  deed f():\n    give x\nK.f()", "NoName")


if __name__ == "__main__":
    unittest.main()
