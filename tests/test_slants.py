"""Slants, their tables, their turns and corners [1.1], [1.2], [1.3]."""

import copy
import unittest

from slanttables.errors import NoNumber, NoSlants, SlantError
from slanttables.slants import corner, mirrored_slants, slants_good, slants_of, table_of, turned_slants
from tests.reference import size_by_length
from tests.things import NO_SLANTS, OTHER_THINGS, SOME_SLANTS

NO_TABLES = OTHER_THINGS + SOME_SLANTS + [
    [[51]], [[-51]], [[10 ** 39]], [[1, 2]], [[1], [1]], [[1], [2]], [1], [1, 2], [[]], [[], []],
    [[1, 2], [3, 4]], [[1, 2], [3]], [[1], [3, 1]], [[1, 2, 3], [4, 1, 2]], [[1, 2], [3, 1], [5, 3]],
    [[1, 2], [3, 1, 2]], [[1, 2, 2], [3, 1, 2]], [[1, 2, 9], [3, 1]], [[1, 51], [3, 1]], [[1, 2], [-51, 1]],
    [[51, 2], [3, 51]], ((1, 2), (3, 1)), [(1, 2), (3, 1)], [[1, 2], (3, 1)], ([1, 2], [3, 1]),
    [[1, 2], [3, True]], [[True, 2], [3, 1]], [[True, 2], [3, True]], [[0, False], [0, 0]], [[1, 2], [True, 1]],
    [[1, None], [3, 1]], [[1, "2"], [3, 1]], ["12", "31"], ["a"], [[1, 2], "31"], [[1, 2], None], [[1, 2], {0: 3, 1: 1}],
    {0: [1]}, [{0: 1}], [[[1]]], [[(1,)]], [[0] * 6] * 6, [[0] * 30] * 30, [[(1, 1)]],
]


class SlantsGood(unittest.TestCase):
    def test_slants(self):
        for slants in SOME_SLANTS + [(1,), (1, 2, 3), (1, 1, 1)]:
            with self.subTest(slants):
                self.assertIs(slants_good(slants), True)

    def test_other_things(self):
        for thing in NO_SLANTS:
            with self.subTest(repr(thing)[:60]):
                self.assertIs(slants_good(thing), False)

    def test_lengths(self):
        self.assertEqual([many for many in range(30) if slants_good((0,) * many)], [1, 3, 5, 7, 9])

    def test_numbers_at_each_place(self):
        for size in range(1, 6):
            many = 2 * size - 1
            for place in range(many):
                for thing, good in [(50, True), (-50, True), (51, False), (-51, False), (True, False), (False, False),
                                    (None, False), ("1", False), ([], False), ((), False), ({}, False), ((1, 1), False)]:
                    slants = (3,) * place + (thing,) + (3,) * (many - 1 - place)
                    self.assertIs(slants_good(slants), good, slants)


class NoSlantsGoes(unittest.TestCase):
    def test_of_each_function(self):
        for function in (table_of, turned_slants, mirrored_slants, lambda thing: corner(thing, 1)):
            for thing in NO_SLANTS:
                with self.subTest(repr(thing)[:60]):
                    with self.assertRaises(NoSlants):
                        function(thing)

    def test_ahead_of_no_number(self):
        for thing in ((51,), None, [1], (1, 2)):
            for size in (0, 9, None, True, "1"):
                with self.assertRaises(NoSlants):
                    corner(thing, size)

    def test_is_caught_as_any_refusal(self):
        for error in (SlantError, ValueError):
            with self.assertRaises(error):
                table_of(None)


class Tables(unittest.TestCase):
    def test_written_out(self):
        self.assertEqual(table_of((7,)), [[7]])
        self.assertEqual(table_of((1, 2, 3)), [[2, 3], [1, 2]])
        self.assertEqual(table_of((1, 2, 3, 4, 5)), [[3, 4, 5], [2, 3, 4], [1, 2, 3]])
        self.assertEqual(table_of((1, 2, 3, 4, 5, 6, 7, 8, 9)), [
            [5, 6, 7, 8, 9], [4, 5, 6, 7, 8], [3, 4, 5, 6, 7], [2, 3, 4, 5, 6], [1, 2, 3, 4, 5]])

    def test_each_place(self):
        for slants in SOME_SLANTS:
            size = size_by_length(slants)
            expected = [[slants[j - i + size - 1] for j in range(size)] for i in range(size)]
            self.assertEqual(table_of(slants), expected)

    def test_are_lists_of_lists(self):
        for slants in SOME_SLANTS:
            table = table_of(slants)
            self.assertIs(type(table), list)
            self.assertEqual({type(row) for row in table}, {list})

    def test_are_the_askers_own(self):
        for slants in SOME_SLANTS:
            expected = copy.deepcopy(table_of(slants))
            table = table_of(slants)
            table[0][0] = 99
            self.assertEqual(table[1:], expected[1:])
            table[-1].append(5)
            table.append([])
            self.assertEqual(table_of(slants), expected)
            self.assertEqual(slants_of(table_of(slants)), slants)


class SlantsOf(unittest.TestCase):
    def test_is_table_of_from_behind(self):
        for slants in SOME_SLANTS:
            told = slants_of(table_of(slants))
            self.assertEqual(told, slants)
            self.assertIs(type(told), tuple)

    def test_written_out(self):
        self.assertEqual(slants_of([[-50]]), (-50,))
        self.assertEqual(slants_of([[1, 2], [3, 1]]), (3, 1, 2))
        self.assertEqual(slants_of([[1, 2, 3], [4, 1, 2], [5, 4, 1]]), (5, 4, 1, 2, 3))

    def test_one_list_may_stand_twice(self):
        row = [4, 4]
        self.assertEqual(slants_of([row, row]), (4, 4, 4))

    def test_other_things(self):
        for thing in NO_TABLES:
            with self.subTest(repr(thing)[:60]):
                with self.assertRaises(NoSlants):
                    slants_of(thing)

    def test_one_number_otherwise(self):
        for slants in SOME_SLANTS:
            size = size_by_length(slants)
            for i in range(size):
                for j in range(size):
                    for thing in (51, -51, True, None, "1", [1], (1, 1)):
                        self.check_refused_with(slants, i, j, thing)
                    if 0 < abs(i - j) < size - 1 or (i == j and size > 1):
                        self.check_refused_with(slants, i, j, table_of(slants)[i][j] // 2 + 7)

    def check_refused_with(self, slants, i, j, thing):
        table = table_of(slants)
        if thing == table[i][j] and type(thing) is int:
            return
        table[i][j] = thing
        with self.assertRaises(NoSlants):
            slants_of(table)

    def test_a_truth_in_place_of_its_number(self):
        for size in range(1, 6):
            for number, truth in ((1, True), (0, False)):
                for i in range(size):
                    for j in range(size):
                        table = [[number] * size for row in range(size)]
                        self.assertEqual(slants_of(table), (number,) * (2 * size - 1))
                        table[i][j] = truth
                        with self.assertRaises(NoSlants):
                            slants_of(table)

    def test_rows_out_short_long_or_tuples(self):
        for slants in SOME_SLANTS:
            table = table_of(slants)
            for at, row in enumerate(table):
                for rows in ([], [row, row], [row[:-1]], [row + [0]], [tuple(row)], [None]):
                    with self.assertRaises(NoSlants):
                        slants_of(table[:at] + rows + table[at + 1:])

    def test_what_is_handed_in_stays(self):
        for thing in [table_of(slants) for slants in SOME_SLANTS] + NO_TABLES:
            kept = copy.deepcopy(thing)
            try:
                slants_of(thing)
            except NoSlants:
                pass
            self.assertEqual(repr(thing), repr(kept))

    def test_what_is_done_later_changes_nothing(self):
        table = [[1, 2], [3, 1]]
        told = slants_of(table)
        table[0][0] = 8
        table.append([1])
        self.assertEqual(told, (3, 1, 2))
        with self.assertRaises(NoSlants):
            slants_of(table)


class Turns(unittest.TestCase):
    def test_written_out(self):
        for turn in (turned_slants, mirrored_slants):
            self.assertEqual(turn((4,)), (4,))
            self.assertEqual(turn((1, 2, 3)), (3, 2, 1))
            self.assertEqual(turn((1, 2, 3, 4, 5)), (5, 4, 3, 2, 1))

    def test_turned_has_rows_for_columns(self):
        for slants in SOME_SLANTS:
            columns = [list(column) for column in zip(*table_of(slants))]
            self.assertEqual(table_of(turned_slants(slants)), columns)

    def test_mirrored_has_rows_and_columns_in_the_other_order(self):
        for slants in SOME_SLANTS:
            other = [row[::-1] for row in table_of(slants)[::-1]]
            self.assertEqual(table_of(mirrored_slants(slants)), other)

    def test_are_slants(self):
        for slants in SOME_SLANTS:
            self.assertIs(slants_good(turned_slants(slants)), True)
            self.assertIs(slants_good(mirrored_slants(slants)), True)


class Corners(unittest.TestCase):
    def test_written_out(self):
        slants = (1, 2, 3, 4, 5, 6, 7, 8, 9)
        self.assertEqual([corner(slants, size) for size in range(1, 6)], [
            (5,), (4, 5, 6), (3, 4, 5, 6, 7), (2, 3, 4, 5, 6, 7, 8), slants])
        self.assertEqual(corner((-7,), 1), (-7,))

    def test_is_the_first_rows_and_columns(self):
        for slants in SOME_SLANTS:
            for size in range(1, size_by_length(slants) + 1):
                first = [row[:size] for row in table_of(slants)[:size]]
                self.assertEqual(table_of(corner(slants, size)), first)

    def test_other_sizes(self):
        for slants in SOME_SLANTS:
            size = size_by_length(slants)
            for thing in (0, size + 1, -1, -size, 6, 10 ** 39, True, False, None, "1", "", [1], (1,), [], {}, (1, 1)):
                with self.subTest((slants, thing)):
                    with self.assertRaises(NoNumber):
                        corner(slants, thing)


if __name__ == "__main__":
    unittest.main()
