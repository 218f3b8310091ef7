"""The interface of snakehall.errors."""

import unittest

from snakehall.errors import BadRow, BadTree, HallError


class ErrorsTest(unittest.TestCase):
    def test_bases(self):
        self.assertEqual(HallError.__bases__, (ValueError,))
        self.assertEqual(BadRow.__bases__, (HallError,))
        self.assertEqual(BadTree.__bases__, (HallError,))

    def test_nothing_else_stands_under_hall_error(self):
        self.assertEqual(set(HallError.__subclasses__()), {BadRow, BadTree})

    def test_fields(self):
        self.assertEqual(BadRow(7).row, 7)
        self.assertEqual(BadRow(row=0).row, 0)
        self.assertEqual(BadTree(3).place, 3)
        self.assertEqual(BadTree(place=0).place, 0)

    def test_each_has_its_own_field_alone(self):
        self.assertEqual(vars(BadRow(2)), {"row": 2})
        self.assertEqual(vars(BadTree(2)), {"place": 2})


if __name__ == "__main__":
    unittest.main()
