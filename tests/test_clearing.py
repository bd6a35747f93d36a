"""Rows of shares, cleared."""

import unittest

from slanttables.clearing import are_independent, cleared


def row_of(*numbers):
    return tuple((number, 1) for number in numbers)


class Cleared(unittest.TestCase):
    def test_written_out(self):
        self.assertEqual(cleared([row_of(2, 4)], 2), ([row_of(1, 2)], [0]))
        self.assertEqual(cleared([row_of(0, 3)], 2), ([row_of(0, 1)], [1]))
        self.assertEqual(cleared([row_of(0, 0)], 2), ([], []))
        self.assertEqual(cleared([], 2), ([], []))
        self.assertEqual(cleared([row_of(2, 3), row_of(1, 2)], 2), ([row_of(1, 0), row_of(0, 1)], [0, 1]))
        self.assertEqual(cleared([row_of(2, 1), row_of(4, 2)], 2), ([((1, 1), (1, 2))], [0]))

    def test_rows_are_exchanged_where_the_first_is_nought(self):
        self.assertEqual(cleared([row_of(0, 2), row_of(5, 5)], 2), ([row_of(1, 0), row_of(0, 1)], [0, 1]))

    def test_only_the_first_places_lead(self):
        self.assertEqual(cleared([row_of(2, 3, 1, 0), row_of(1, 2, 0, 1)], 2),
                         ([row_of(1, 0, 2, -3), row_of(0, 1, -1, 2)], [0, 1]))
        self.assertEqual(cleared([row_of(1, 1, 1), row_of(1, 1, 2)], 2), ([row_of(1, 1, 1)], [0]))

    def test_what_is_handed_in_stays(self):
        rows = [row_of(0, 2), row_of(5, 5)]
        cleared(rows, 2)
        self.assertEqual(rows, [row_of(0, 2), row_of(5, 5)])


class Independent(unittest.TestCase):
    def test_written_out(self):
        self.assertIs(are_independent([], 2), True)
        self.assertIs(are_independent([row_of(0, 3)], 2), True)
        self.assertIs(are_independent([row_of(0, 0)], 2), False)
        self.assertIs(are_independent([row_of(1, 2), row_of(2, 1)], 2), True)
        self.assertIs(are_independent([row_of(1, 2), row_of(-2, -4)], 2), False)
        self.assertIs(are_independent([row_of(1, 2), row_of(2, 1), row_of(1, 0)], 2), False)
        self.assertIs(are_independent([row_of(1, 2, 3), row_of(4, 5, 6), row_of(7, 8, 9)], 3), False)
        self.assertIs(are_independent([row_of(1, 2, 3), row_of(4, 5, 6), row_of(7, 8, 8)], 3), True)


if __name__ == "__main__":
    unittest.main()
