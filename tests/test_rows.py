"""The table of slants times a row of shares [1.4], [1.5]."""

import copy
import unittest

from slanttables.errors import NoRow, NoSlants
from slanttables.slants import row_good, table_of, times_row, turned_slants
from tests.reference import fractions_of, row_of_fractions, size_by_length
from tests.things import NO_SLANTS, SOME_SLANTS, no_rows, rows_for


class RowGood(unittest.TestCase):
    def test_rows(self):
        for slants in SOME_SLANTS:
            for row in rows_for(size_by_length(slants)):
                self.assertIs(row_good(slants, row), True)

    def test_other_things(self):
        for size in range(1, 6):
            for thing in no_rows(size):
                with self.subTest((size, repr(thing)[:60])):
                    self.assertIs(row_good((3,) * (2 * size - 1), thing), False)

    def test_rows_of_another_size(self):
        for slants in SOME_SLANTS:
            for many in range(12):
                self.assertIs(row_good(slants, ((1, 2),) * many), many == size_by_length(slants))

    def test_no_slants(self):
        for thing in NO_SLANTS:
            for row in (((1, 1),), None, (), "row"):
                with self.assertRaises(NoSlants):
                    row_good(thing, row)

    def test_what_is_handed_in_stays(self):
        for thing in no_rows(2):
            kept = copy.deepcopy(thing)
            row_good((1, 2, 3), thing)
            self.assertEqual(repr(thing), repr(kept))


class TimesRow(unittest.TestCase):
    def test_written_out(self):
        self.assertEqual(times_row((6,), ((1, 4),)), ((3, 2),))
        self.assertEqual(times_row((-6,), ((1, 3),)), ((-2, 1),))
        self.assertEqual(times_row((1, 2, 3), ((1, 2), (1, 3))), ((2, 1), (7, 6)))
        self.assertEqual(times_row((1, 2, 3, 4, 5), ((1, 1), (0, 1), (-1, 1))), ((-2, 1), (-2, 1), (-2, 1)))
        self.assertEqual(times_row((0, 0, 0), ((1, 2), (1, 3))), ((0, 1), (0, 1)))

    def test_each_place(self):
        for slants in SOME_SLANTS:
            for row in rows_for(size_by_length(slants)):
                shares = fractions_of(row)
                expected = [sum(number * share for number, share in zip(line, shares)) for line in table_of(slants)]
                told = times_row(slants, row)
                self.assertEqual(told, row_of_fractions(expected))
                self.assertIs(row_good(slants, told), True)

    def test_may_be_handed_in_again(self):
        row = ((1, 2), (2, 3))
        for many in range(5):
            row = times_row((1, -2, 3), row)
        self.assertIs(row_good((1, -2, 3), row), True)

    def test_the_same_question_has_the_same_answer(self):
        row = ((1, 2), (1, 3))
        told = times_row((1, 2, 3), row)
        for slants in SOME_SLANTS:
            times_row(slants, ((5, 7),) * size_by_length(slants))
        self.assertEqual(times_row((1, 2, 3), row), told)

    def test_no_row(self):
        for size in range(1, 6):
            for thing in no_rows(size):
                with self.subTest((size, repr(thing)[:60])):
                    with self.assertRaises(NoRow):
                        times_row((3,) * (2 * size - 1), thing)

    def test_no_slants_goes_ahead_of_no_row(self):
        for thing in NO_SLANTS:
            for row in (((1, 1),), None, (), "row", ((2, 2),)):
                with self.assertRaises(NoSlants):
                    times_row(thing, row)


class WhatFollows(unittest.TestCase):
    def test_one_place_is_a_column(self):
        for slants in SOME_SLANTS:
            size = size_by_length(slants)
            for place in range(size):
                row = tuple((int(at == place), 1) for at in range(size))
                column = tuple((line[place], 1) for line in table_of(slants))
                self.assertEqual(times_row(slants, row), column)

    def test_sum_of_two_rows(self):
        for slants in SOME_SLANTS:
            rows = rows_for(size_by_length(slants))
            for one, other in zip(rows, rows[3:]):
                both = row_of_fractions(a + b for a, b in zip(fractions_of(one), fractions_of(other)))
                parts = zip(fractions_of(times_row(slants, one)), fractions_of(times_row(slants, other)))
                self.assertEqual(times_row(slants, both), row_of_fractions(a + b for a, b in parts))

    def test_products_by_the_turned_slants(self):
        for slants in SOME_SLANTS:
            rows = rows_for(size_by_length(slants))
            for one, other in zip(rows, rows[4:]):
                here = zip(fractions_of(one), fractions_of(times_row(slants, other)))
                there = zip(fractions_of(other), fractions_of(times_row(turned_slants(slants), one)))
                self.assertEqual(sum(a * b for a, b in here), sum(a * b for a, b in there))


if __name__ == "__main__":
    unittest.main()
