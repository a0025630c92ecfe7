import unittest

from ghostcords.checks import (first_twice, is_cord, is_integer, is_leading, is_lot, is_name, is_row, is_within, row_key)
from helpers import GREAT, NO_INTEGERS, ODD, all_rows


class Checks(unittest.TestCase):
    def test_integers(self):
        for value in NO_INTEGERS:
            self.assertIs(is_integer(value), False)
            self.assertIs(is_within(value, None, None), False)
            self.assertIs(is_cord(value), False)
        for value in GREAT + (0, 1, -1):
            self.assertIs(is_integer(value), True)
            self.assertIs(is_within(value, None, None), True)

    def test_within(self):
        self.assertEqual([is_within(value, 1, 3) for value in range(5)], [False, True, True, True, False])
        self.assertEqual([is_within(value, 1, None) for value in (0, 1, 10 ** 30)], [False, True, True])
        self.assertEqual([is_within(value, None, 1) for value in (-10 ** 30, 1, 2)], [True, True, False])
        self.assertIs(is_within(value=2, least=2, most=2), True)
        self.assertIs(is_within(True, 0, 2), False)

    def test_names(self):
        for value in ("a", "z9", "abcdefghijkl", "a00000000000"):
            self.assertIs(is_name(value), True)
        for value in ODD + ("9", "A", "aB", "a b", "a_", "abcdefghijklm", "\u00e4", "a\u0661", "a\n", ["a"]):
            if value != "word":
                self.assertIs(is_name(value), False, repr(value))

    def test_cords(self):
        self.assertEqual([is_cord(value) for value in range(-1, 6)], [False] + [True] * 5 + [False])

    def test_rows_lots_leading(self):
        for row in all_rows((0, 1, 2, 3, 4)):
            for value in (row, list(row)):
                self.assertIs(is_row(value), True)
                self.assertIs(is_lot(value), row == tuple(sorted(row)))
                self.assertIs(is_leading(value), row != () and row[0] == min(row))
        for value in ODD + ([0, True], [[0], [0]], "01", {0: 0, 1: 1}, list(range(5)) * 1000, (0, 1, 0)):
            self.assertIs(is_row(value), False)
            self.assertIs(is_lot(value), False)
            self.assertIs(is_leading(value), False)
        self.assertIs(is_lot([1, 0]), False)

    def test_row_key(self):
        self.assertEqual(row_key([2, 1]), (2, (2, 1)))
        self.assertEqual(row_key(row=()), (0, ()))
        rows = all_rows((0, 1, 3))
        self.assertEqual(sorted(reversed(rows), key=row_key), rows)

    def test_first_twice(self):
        self.assertIsNone(first_twice([]))
        self.assertIsNone(first_twice([1, "1", (1,), -1, -2]))
        self.assertEqual(first_twice([3, 2, 2, 3]), 2)
        self.assertEqual(first_twice(values=("b", "a", "b")), "b")
        self.assertEqual(first_twice([(1, (0,)), [1, [0]]]), (1, (0,)))
        values = [[0], [1], [0]]
        self.assertEqual(first_twice(values), (0,))
        self.assertEqual(values, [[0], [1], [0]])


if __name__ == "__main__":
    unittest.main()
