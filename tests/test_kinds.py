"""Round tables and half tables [9.1], [9.2], [9.3], [9.4], [9.5]."""

import itertools
import unittest

from slanttables.backs import back_good, back_of
from slanttables.errors import NoRow, NoSlants, NotFull
from slanttables.fullness import is_full
from slanttables.kinds import half_back, half_product, half_slants, is_half, is_round, round_product, round_slants
from slanttables.slants import row_good, slants_good, times_row, turned_slants
from tests.checks import Checks
from tests.reference import (
    number_by_orders, one_alone, row_of_fractions, size_by_length, table_by_places, times_fractions, times_grid,
)
from tests.things import EVEN, MANY_SLANTS, NO_SLANTS, OTHER_THINGS

NO_RINGS = OTHER_THINGS + [
    (51,), (-51,), (0, 51), (51, 0), (0, 0, 0, 0, -51), (1,) * 6, (1,) * 7, (0,) * 9, [1], [1, 2], (1, True), (False,), (1, None), (1, "2"),
    ((1, 1),), ((1, 1), (2, 1)), "12", {0: 1}, (1, (2,)), (1, [2]), ((1, 2),), [(1, 2)], (10 ** 39,), (1, 2, 3, 4, 10 ** 30),
]

SOME_RINGS = [
    ring for size, each in ((1, 1), (2, 2), (3, 7), (4, 31), (5, 157))
    for ring in itertools.islice(itertools.product((-50, -1, 0, 2, 50), repeat=size), 0, None, each)
] + [(7,), (1, 2), (1, 2, 3), (4, 0, -4), (1, 2, 3, 4), (0, 0, 0, 5), (1, 2, 3, 4, 5), (50,) * 5, (-50, 50, -50, 50, -50)]


def pairs_of_rings():
    """Tell pairs of rings of as many numbers."""
    for size in range(1, 6):
        rings = [ring for ring in SOME_RINGS if len(ring) == size]
        for at, ring in enumerate(rings):
            yield ring, ring
            yield ring, rings[at - 1]
            yield ring, rings[(at * 3 + 5) % len(rings)]


class Refusals(Checks):
    def test_no_slants(self):
        for thing in NO_SLANTS:
            for function in (is_round, is_half):
                self.check_refused(NoSlants, function, thing)

    def test_no_ring_and_no_column(self):
        for thing in NO_RINGS:
            for function in (round_slants, half_slants, half_back):
                self.check_refused(NoRow, function, thing)

    def test_no_two(self):
        for thing in NO_RINGS:
            for function in (round_product, half_product):
                for other in ((1,), (1, 2), (1,) * 5, None, thing):
                    self.check_refused(NoRow, function, thing, other)
                    self.check_refused(NoRow, function, other, thing)

    def test_unlike_many(self):
        for one in range(1, 6):
            for other in range(1, 6):
                if one != other:
                    for function in (round_product, half_product):
                        self.check_refused(NoRow, function, (1,) * one, (1,) * other)

    def test_not_full(self):
        for column in SOME_RINGS + [(0,) * size for size in range(1, 6)]:
            if column[0] == 0:
                self.check_refused(NotFull, half_back, column)

    def test_no_row_goes_ahead_of_not_full(self):
        for thing in ((0, 51), (0,) * 6, [0], (False,), (0, None)):
            self.check_refused(NoRow, half_back, thing)


class Round(Checks):
    def test_written_out(self):
        for slants in ((7,), (0,), (2, 1, 2), (2, 3, 1, 2, 3), (2, 3, 4, 1, 2, 3, 4), (5,) * 9, (2, 3, 4, 5, 1, 2, 3, 4, 5)):
            self.assertIs(is_round(slants), True, slants)
        for slants in ((2, 1, 3), (3, 2, 1, 2, 3), (2, 3, 1, 2, 4), (2, 3, 1, 0, 3), (1,) * 6 + (2,), (2, 3, 4, 5, 1, 2, 3, 4, 6)):
            self.assertIs(is_round(slants), False, slants)
        self.assertEqual(round_slants((7,)), (7,))
        self.assertEqual(round_slants((1, 2)), (2, 1, 2))
        self.assertEqual(round_slants((1, 2, 3)), (2, 3, 1, 2, 3))
        self.assertEqual(round_slants((1, 2, 3, 4, 5)), (2, 3, 4, 5, 1, 2, 3, 4, 5))

    def test_by_the_table(self):
        # Round is a table in which each row is the one ahead, its last number put first.
        for slants in MANY_SLANTS + EVEN:
            table = table_by_places(slants)
            self.assertIs(is_round(slants), all(row == [above[-1]] + above[:-1] for above, row in zip(table, table[1:])))

    def test_each_number_counts(self):
        for ring in SOME_RINGS:
            slants = round_slants(ring)
            for place, number in enumerate(slants):
                if len(ring) > 1 and place != len(ring) - 1:
                    other = slants[:place] + ((number + 51) % 101 - 50,) + slants[place + 1:]
                    self.assertIs(is_round(other), False)

    def test_slants_of_a_ring(self):
        for ring in SOME_RINGS:
            slants = round_slants(ring)
            self.assertIs(slants_good(slants), True)
            self.assertEqual(size_by_length(slants), len(ring))
            self.assertIs(is_round(slants), True)
            self.assertEqual(table_by_places(slants)[0], list(ring))

    def test_products(self):
        self.assertEqual(round_product((3,), (-5,)), (-15,))
        self.assertEqual(round_product((1, 2), (3, 4)), (11, 10))
        self.assertEqual(round_product((1, 2, 3), (1, 0, 0)), (1, 2, 3))
        self.assertEqual(round_product((1, 2, 3), (0, 1, 0)), (3, 1, 2))
        self.assertEqual(round_product((50,) * 5, (50,) * 5), (12500,) * 5)
        for one, other in pairs_of_rings():
            told = round_product(one, other)
            self.assertIs(type(told), tuple)
            grid = times_grid(table_by_places(round_slants(one)), table_by_places(round_slants(other)))
            self.assertEqual(list(told), grid[0])


class Half(Checks):
    def test_written_out(self):
        for slants in ((7,), (0,), (2, 1, 0), (3, 2, 1, 0, 0), (0,) * 7, (5, 4, 3, 2, 1, 0, 0, 0, 0)):
            self.assertIs(is_half(slants), True, slants)
        for slants in ((0, 1, 2), (3, 2, 1, 1, 0), (3, 2, 1, 0, -1), (0,) * 6 + (1,), (0,) * 5 + (1, 0, 0, 0)):
            self.assertIs(is_half(slants), False, slants)
        self.assertEqual(half_slants((7,)), (7,))
        self.assertEqual(half_slants((1, 2)), (2, 1, 0))
        self.assertEqual(half_slants((1, 2, 3)), (3, 2, 1, 0, 0))
        self.assertEqual(half_slants((0, 0, 0, 0, 5)), (5, 0, 0, 0, 0, 0, 0, 0, 0))

    def test_by_the_table(self):
        for slants in MANY_SLANTS + EVEN:
            above = [number for i, row in enumerate(table_by_places(slants)) for number in row[i + 1:]]
            self.assertIs(is_half(slants), not any(above))

    def test_slants_of_a_column(self):
        for column in SOME_RINGS:
            slants = half_slants(column)
            self.assertIs(slants_good(slants), True)
            self.assertEqual(size_by_length(slants), len(column))
            self.assertIs(is_half(slants), True)
            self.assertEqual([row[0] for row in table_by_places(slants)], list(column))

    def test_products(self):
        self.assertEqual(half_product((3,), (-5,)), (-15,))
        self.assertEqual(half_product((1, 2), (3, 4)), (3, 10))
        self.assertEqual(half_product((1, 2, 3), (0, 1, 0)), (0, 1, 2))
        self.assertEqual(half_product((50,) * 5, (50,) * 5), (2500, 5000, 7500, 10000, 12500))
        for one, other in pairs_of_rings():
            told = half_product(one, other)
            self.assertIs(type(told), tuple)
            grid = times_grid(table_by_places(half_slants(one)), table_by_places(half_slants(other)))
            self.assertEqual(list(told), [row[0] for row in grid])

    def test_backs(self):
        self.assertEqual(half_back((4,)), ((1, 4),))
        self.assertEqual(half_back((1, 1)), ((1, 1), (-1, 1)))
        self.assertEqual(half_back((2, 1, 0)), ((1, 2), (-1, 4), (1, 8)))
        self.assertEqual(half_back((1, -1, -1, 0, 0)), ((1, 1), (1, 1), (2, 1), (3, 1), (5, 1)))
        for column in SOME_RINGS:
            if column[0] != 0:
                told = half_back(column)
                slants = half_slants(column)
                self.assertIs(row_good(slants, told), True)
                self.assertEqual(times_fractions(slants, told), one_alone(0, len(column)))


class WhatFollows(Checks):
    def test_the_product_of_round_ones_is_round(self):
        for one, other in pairs_of_rings():
            grid = times_grid(table_by_places(round_slants(one)), table_by_places(round_slants(other)))
            for above, row in zip(grid, grid[1:]):
                self.assertEqual(row, [above[-1]] + above[:-1])

    def test_it_is_the_same_whichever_is_ahead(self):
        for one, other in pairs_of_rings():
            self.assertEqual(round_product(one, other), round_product(other, one))
            self.assertEqual(half_product(one, other), half_product(other, one))

    def test_a_half_table_is_full_just_where_its_first_number_is_not_nought(self):
        for column in SOME_RINGS:
            slants = half_slants(column)
            self.assertIs(is_full(slants), column[0] != 0)
            self.assertIs(number_by_orders(table_by_places(slants)) != 0, column[0] != 0)

    def test_the_back_is_the_half_table_of_half_back(self):
        for column in SOME_RINGS:
            if column[0] != 0:
                size = len(column)
                told = half_back(column)
                half = tuple(tuple(told[i - j] if i >= j else (0, 1) for j in range(size)) for i in range(size))
                self.assertEqual(back_of(half_slants(column)), half)
                self.assertIs(back_good(half_slants(column), half), True)
                self.assertEqual(times_row(half_slants(column), told), row_of_fractions(one_alone(0, size)))

    def test_a_round_table_turned_is_round(self):
        for slants in MANY_SLANTS + [round_slants(ring) for ring in SOME_RINGS]:
            self.assertIs(is_round(turned_slants(slants)), is_round(slants))

    def test_a_half_table_turned_has_noughts_below(self):
        for column in SOME_RINGS:
            table = table_by_places(turned_slants(half_slants(column)))
            self.assertFalse(any(number for i, row in enumerate(table) for number in row[:i]))

    def test_the_same_question_has_the_same_answer(self):
        kept = [(round_slants(ring), half_slants(ring), round_product(ring, ring)) for ring in SOME_RINGS]
        again = [(round_slants(ring), half_slants(ring), round_product(ring, ring)) for ring in reversed(SOME_RINGS)]
        self.assertEqual(kept, again[::-1])


if __name__ == "__main__":
    unittest.main()
