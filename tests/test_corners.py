"""Numbers of tables, of their corners and of parts of them [2.1], [2.2], [2.3], [2.4]."""

import copy
import itertools
import unittest
from fractions import Fraction

from slanttables.corners import corner_numbers, number_of, part_number, put_number, weak_sizes
from slanttables.errors import NoNumber, NoRow, NoSlants
from slanttables.fullness import is_full
from slanttables.slants import times_row, turned_slants
from slanttables.solving import first_weak
from tests.reference import (
    kind_by_orders, number_by_orders, numbers_by_orders, row_of_fractions, size_by_length, table_by_places,
)
from tests.things import (
    FULL_NOT_STRONG, MANY_SLANTS, NO_SLANTS, NOT_FULL, OTHER_THINGS, SOME_SLANTS, STRONG, no_whole_rows, whole_rows_for,
)

# Each is no place of slants of size 3, and no number of a row or a column.
NO_PLACES = [3, 4, -1, -3, 50, 10 ** 39, -(10 ** 39), True, False, None, "0", "", "1", [0], (0,), [], (), {}, (0, 1)]


def no_rising_places(size):
    """Tell things that are no rising tuple of places of slants of this size."""
    wholes = tuple(range(size))
    things = [thing for thing in OTHER_THINGS if thing != ()]
    things += [list(wholes), [0], {0: 0}, "0", 0, size - 1, (size,), (-1,), (0, size), (-1, 0), (-size,), wholes + (size,)]
    things += [(0, 0), (size - 1, size - 1), wholes + (size - 1,), (0,) + wholes]
    things += [(True,), (False,), ("0",), (None,), ((0,),), ([0],), ((0, 1),), ({},)]
    if size > 1:
        things += [wholes[::-1], (1, 0), (0, True), (False, 1), (0, None), (0, "1"), (0, (1,)), (0, 0, 1), (0, 1, 1)]
    if size > 2:
        things += [(0, 2, 1), (1, 0, 2), (2, 0), (1, 1, 2), (0, 2, 2), [0, 2]]
    return things


class NumberOf(unittest.TestCase):
    def test_written_out(self):
        self.assertEqual(number_of((7,)), 7)
        self.assertEqual(number_of((-50,)), -50)
        self.assertEqual(number_of((0,)), 0)
        self.assertEqual(number_of((1, 2, 3)), 1)
        self.assertEqual(number_of((3, 0, 5)), -15)
        self.assertEqual(number_of((1, 2, 3, 4, 5)), 0)
        self.assertEqual(number_of((0, 0, 2, 7, -9)), 8)
        self.assertEqual(number_of((1, 0, 0, 1, 0)), 1)
        self.assertEqual(number_of((1, 0, 0, 0, 1, 0, 0)), -1)
        self.assertEqual(number_of((0, 0, 0, 1, 1, 0, 0)), 1)
        self.assertEqual(number_of((0, 0, 0, 1, 0, 0, 0, 0, 0)), 0)
        self.assertEqual(number_of((0, 0, 0, 0, 3, 1, 2, 3, 4)), 243)

    def test_is_the_sum_over_all_orders(self):
        for slants in MANY_SLANTS:
            with self.subTest(slants):
                told = number_of(slants)
                self.assertEqual(told, number_by_orders(table_by_places(slants)))
                self.assertIs(type(told), int)

    def test_no_slants(self):
        for thing in NO_SLANTS:
            for function in (number_of, corner_numbers, weak_sizes):
                with self.subTest((function.__name__, repr(thing)[:60])):
                    with self.assertRaises(NoSlants):
                        function(thing)


class CornerNumbers(unittest.TestCase):
    def test_written_out(self):
        self.assertEqual(corner_numbers((7,)), [7])
        self.assertEqual(corner_numbers((1, 2, 3)), [2, 1])
        self.assertEqual(corner_numbers((1, 2, 3, 4, 5)), [3, 1, 0])
        self.assertEqual(corner_numbers((5, 0, 1, 2, 0)), [1, 1, 21])

    def test_of_each_corner(self):
        for slants in MANY_SLANTS:
            with self.subTest(slants):
                told = corner_numbers(slants)
                self.assertIs(type(told), list)
                self.assertEqual(told, numbers_by_orders(slants))
                self.assertEqual(told[-1], number_of(slants))

    def test_is_the_askers_own(self):
        told = corner_numbers((1, 2, 3, 4, 5))
        told.append(9)
        told[0] = 8
        self.assertEqual(corner_numbers((1, 2, 3, 4, 5)), [3, 1, 0])


class PartNumber(unittest.TestCase):
    def test_written_out(self):
        slants = (1, 2, 3, 4, 5)
        self.assertEqual(part_number(slants, (0,), (2,)), 5)
        self.assertEqual(part_number(slants, (2,), (0,)), 1)
        self.assertEqual(part_number(slants, (0, 2), (0, 1)), 3 * 2 - 4 * 1)
        self.assertEqual(part_number(slants, (0, 1), (0, 2)), 3 * 4 - 5 * 2)
        self.assertEqual(part_number(slants, (0, 1, 2), (0, 1, 2)), 0)

    def test_one_of_none(self):
        for slants in SOME_SLANTS:
            self.assertEqual(part_number(slants, (), ()), 1)

    def test_each_part(self):
        for slants in SOME_SLANTS:
            table = table_by_places(slants)
            for many in range(len(table) + 1):
                tuples = list(itertools.combinations(range(len(table)), many))
                for rows, columns in itertools.product(tuples, tuples):
                    expected = number_by_orders([[table[i][j] for j in columns] for i in rows])
                    self.assertEqual(part_number(slants, rows, columns), expected, (slants, rows, columns))

    def test_all_rows_and_columns_are_the_table(self):
        for slants in MANY_SLANTS:
            every = tuple(range(size_by_length(slants)))
            self.assertEqual(part_number(slants, every, every), number_of(slants))
            for size, number in enumerate(corner_numbers(slants), start=1):
                self.assertEqual(part_number(slants, every[:size], every[:size]), number)

    def test_no_row_of_either(self):
        for size in range(1, 6):
            slants = (3,) * (2 * size - 1)
            for thing in no_rising_places(size):
                # Beside it stands one of as many as it has, where it has some: the number of them is not what is wrong.
                many = min(len(thing), size) if isinstance(thing, (tuple, list, str, dict)) else 1
                for other in {(), (0,), tuple(range(many)), tuple(range(size))}:
                    self.check_no_row(slants, thing, other)
                    self.check_no_row(slants, other, thing)
                self.check_no_row(slants, thing, thing)

    def check_no_row(self, slants, rows, columns):
        with self.subTest((slants, repr(rows)[:60], repr(columns)[:60])):
            with self.assertRaises(NoRow):
                part_number(slants, rows, columns)

    def test_no_row_of_unlike_many(self):
        for size in range(1, 6):
            slants = tuple(range(2 * size - 1))
            tuples = [places for many in range(size + 1) for places in itertools.combinations(range(size), many)]
            for rows, columns in itertools.product(tuples, tuples):
                if len(rows) != len(columns):
                    self.check_no_row(slants, rows, columns)

    def test_no_slants_goes_ahead(self):
        for thing in NO_SLANTS:
            for rows, columns in [((), ()), ((0,), (0,)), (None, None), ((0,), ()), ((1, 0), "0"), ([0], (9,))]:
                with self.assertRaises(NoSlants):
                    part_number(thing, rows, columns)

    def test_what_is_handed_in_stays(self):
        for thing in no_rising_places(3):
            kept = copy.deepcopy(thing)
            with self.assertRaises(NoRow):
                part_number((1, 2, 3, 4, 5), thing, thing)
            self.assertEqual(repr(thing), repr(kept))


class PutNumber(unittest.TestCase):
    def test_written_out(self):
        self.assertEqual(put_number((7,), 0, (1000,)), 1000)
        self.assertEqual(put_number((1, 2, 3), 0, (5, 6)), 5 * 2 - 3 * 6)
        self.assertEqual(put_number((1, 2, 3), 1, (5, 6)), 2 * 6 - 5 * 1)
        self.assertEqual(put_number((1, 2, 3, 4, 5), 1, (0, -1000, 0)), -1000 * (3 * 3 - 5 * 1))

    def test_each_place(self):
        for slants in MANY_SLANTS[::3] + SOME_SLANTS:
            size = size_by_length(slants)
            for place in range(size):
                for row in whole_rows_for(size)[::4]:
                    table = table_by_places(slants)
                    for line, number in zip(table, row):
                        line[place] = number
                    told = put_number(slants, place, row)
                    self.assertEqual(told, number_by_orders(table))
                    self.assertIs(type(told), int)

    def test_a_column_of_its_own(self):
        for slants in MANY_SLANTS:
            table = table_by_places(slants)
            for place in range(len(table)):
                column = tuple(line[place] for line in table)
                self.assertEqual(put_number(slants, place, column), number_of(slants))

    def test_numbers_at_both_ends(self):
        for size in range(1, 6):
            slants = (0,) * (size - 1) + (1,) + (0,) * (size - 1)
            for place in range(size):
                for number in (1000, -1000):
                    self.assertEqual(put_number(slants, place, (number,) * size), number)

    def test_no_number(self):
        for place in NO_PLACES:
            for row in ((1, 2, 3), (1, 2), None, "row", (1, 2, 1001)):
                with self.subTest((place, row)):
                    with self.assertRaises(NoNumber):
                        put_number((1, 2, 3, 4, 5), place, row)

    def test_places_are_those_below_the_size(self):
        for size in range(1, 6):
            slants = (2,) * (2 * size - 1)
            for place in range(-6, 9):
                if 0 <= place < size:
                    put_number(slants, place, (0,) * size)
                else:
                    with self.assertRaises(NoNumber):
                        put_number(slants, place, (0,) * size)

    def test_no_row(self):
        for size in range(1, 6):
            for place in (0, size - 1):
                for row in no_whole_rows(size):
                    with self.subTest((size, repr(row)[:60])):
                        kept = copy.deepcopy(row)
                        with self.assertRaises(NoRow):
                            put_number((3,) * (2 * size - 1), place, row)
                        self.assertEqual(repr(row), repr(kept))

    def test_no_slants_goes_ahead(self):
        for thing in NO_SLANTS:
            for place, row in [(0, (1,)), (9, (1,)), (None, None), (0, None), (True, (1001,))]:
                with self.assertRaises(NoSlants):
                    put_number(thing, place, row)


class WeakSizes(unittest.TestCase):
    def test_written_out(self):
        self.assertEqual(weak_sizes((7,)), [])
        self.assertEqual(weak_sizes((0,)), [1])
        self.assertEqual(weak_sizes((3, 0, 5)), [1])
        self.assertEqual(weak_sizes((1, 2, 3, 4, 5)), [3])
        self.assertEqual(weak_sizes((0,) * 9), [1, 2, 3, 4, 5])
        self.assertEqual(weak_sizes((50,) * 9), [2, 3, 4, 5])

    def test_are_those_with_number_nought(self):
        for slants in MANY_SLANTS:
            told = weak_sizes(slants)
            self.assertIs(type(told), list)
            self.assertEqual(told, [at + 1 for at, number in enumerate(numbers_by_orders(slants)) if number == 0])

    def test_is_the_askers_own(self):
        told = weak_sizes((0,) * 9)
        told.clear()
        self.assertEqual(weak_sizes((0,) * 9), [1, 2, 3, 4, 5])

    def test_full_just_where_the_own_number_is_not_nought(self):
        for slants in MANY_SLANTS:
            self.assertIs(is_full(slants), number_of(slants) != 0)
            self.assertIs(is_full(slants), size_by_length(slants) not in weak_sizes(slants))
            self.assertIs(is_full(slants), kind_by_orders(slants) != "not full")

    def test_strong_just_where_there_are_none(self):
        for slants in MANY_SLANTS:
            self.assertIs(first_weak(slants) is None, weak_sizes(slants) == [])
            self.assertIs(weak_sizes(slants) == [], kind_by_orders(slants) == "strong")


class WhatFollows(unittest.TestCase):
    def test_turned_slants_have_the_same_number(self):
        for slants in STRONG + FULL_NOT_STRONG + NOT_FULL:
            self.assertEqual(number_of(turned_slants(slants)), number_of(slants))
            self.assertEqual(corner_numbers(turned_slants(slants)), corner_numbers(slants))

    def test_contrary_numbers(self):
        for slants in STRONG + FULL_NOT_STRONG + NOT_FULL:
            contrary = tuple(-number for number in slants)
            sign = -1 if size_by_length(slants) in (1, 3, 5) else 1
            self.assertEqual(number_of(contrary), sign * number_of(slants))

    def test_put_numbers_by_the_number_solve_a_row(self):
        for slants in STRONG + FULL_NOT_STRONG:
            size = size_by_length(slants)
            for row in whole_rows_for(size)[::4]:
                shares = row_of_fractions(
                    [Fraction(put_number(slants, place, row), number_of(slants)) for place in range(size)])
                self.assertEqual(times_row(slants, shares), tuple((number, 1) for number in row))


if __name__ == "__main__":
    unittest.main()
