"""Promise [26]: texts of answers."""

import unittest

from draws import drawn
from snakehall.desk import answers
from snakehall.machine import ran
from snakehall.making import made
from snakehall.trees import text_of


class Answers(unittest.TestCase):
    def tells(self, text, *rows, given=(), most=3000):
        self.assertEqual(answers(text, list(given), most), "\n".join(rows))

    def test_what_is_said_a_row_each(self):
        self.tells('say 1\nsay "a b"\nsay none', "1", "a b", "none", "ended")

    def test_a_text_without_a_row(self):
        self.assertEqual(answers("", [], 0), "ended")
        self.assertEqual(answers("  \n\n ", [], 5), "ended")

    def test_a_said_text_that_is_empty(self):
        self.assertEqual(answers('say ""', [], 5), "\nended")
        self.assertEqual(answers('say ""\nsay ""\nsay 1', [], 5), "\n\n1\nended")

    def test_going(self):
        self.tells("say 1\nsay 2", "1", "going", most=1)
        self.assertEqual(answers("say 1", [], 0), "going")

    def test_errors(self):
        self.tells("say 1\nraise Error()", "1", "error Error")
        self.tells('raise Error("w v")', "error Error w v")
        self.tells('raise NoName(" ")', "error NoName  ")
        self.tells("raise Error(none)", "error Error none")
        self.tells("nothere", "error NoName")
        self.tells("kind E(Error):\n  pass\nraise E([1])", "error E list 1")

    def test_causes(self):
        self.tells('raise Error("a") from NoName("b")', "error Error a", "from NoName b")
        self.tells('raise Error() from NoName()', "error Error", "from NoName")
        self.tells('a = NoItem()\na.cause = NoName("c")\nraise Error("e") from a', "error Error e", "from NoItem", "from NoName c")
        self.tells("e = Error(1)\nraise e from e", "error Error 1", *["from Error 1"] * 10)

    def test_given(self):
        self.tells("say ask\nsay ask\nsay ask", "5", "x", "none", "ended", given=(5, "x"))
        given = [1]
        answers("say ask", given, 5)
        self.assertEqual(given, [1])

    def test_what_ends_say(self):
        self.tells('kind K():\n  deed end(self):\n    say "end"\nk = K()\nraise Error(1)', "end", "error Error 1")

    def test_refused_rows(self):
        self.tells("say", "refused row 0")
        self.tells("say 1\n\nsay 2\n  say 3\nsay 4", "refused row 3")
        self.tells("if yes:", "refused row 1")
        self.tells("say 1\ntry:\n  pass", "refused row 3")
        self.tells("say 1\nsay 01", "refused row 1")
        self.tells("break:", "refused row 0")

    def test_refused_places(self):
        self.tells("say 1\ngive 2", "refused place 1")
        self.tells("break", "refused place 0")
        self.tells("deed f():\n  pass\n\nif yes:\n  say 1\n  hand 1", "refused place 4")
        self.tells("kind K():\n  x = 1\n  say 1", "refused place 2")
        self.tells("say super.f()", "refused place 0")

    def test_a_row_is_refused_ahead_of_a_place(self):
        self.tells("break\nsay", "refused row 1")

    def test_the_same_again(self):
        text = "a = []\na[0] = a\nsay ask\nraise Error(a)"
        self.assertEqual(answers(text, ["x"], 50), answers(text, ["x"], 50))

    def test_draws(self):
        for seed in range(8000, 8150):
            tree = drawn(seed)
            said, end, steps, ends = ran(made(tree)[0], ["a", 1], 200)
            rows = list(said)
            if end[0] == "error":
                rows.append("error " + end[1] + (" " + end[2] if end[2] else ""))
                rows += ["from " + title + (" " + words if words else "") for title, words in end[3]]
            else:
                rows.append(end[0])
            self.tells(text_of(tree), *rows, given=("a", 1), most=200)


if __name__ == "__main__":
    unittest.main()
