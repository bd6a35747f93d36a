"""Backs by two rows [4.1], [4.2], [4.3], [4.4], [4.5]."""

import unittest

from slanttables.backs import back_by, back_good, back_of, share_table, times_table, two_good, two_rows
from slanttables.errors import NoRow, NoSlants, NotFull
from slanttables.slants import table_of, times_row
from tests.checks import Checks
from tests.reference import (
    fractions_of, one_alone, ones_by_orders, row_of_fractions, size_by_length, table_by_places, times_fractions, times_grid,
)
from tests.things import (
    FULL, FULL_OF_EACH_SIZE, MANY_SLANTS, NO_SHARES, NO_SLANTS, NOT_FULL, NOT_FULL_OF_EACH_SIZE, OTHER_THINGS, no_rows, noughts,
    rows_for, rows_near,
)


def ones(size):
    """Tell the table of shares that is 1 where row and column are the same and 0 else."""
    return tuple(row_of_fractions(one_alone(place, size)) for place in range(size))


def back_by_orders(slants):
    return tuple(zip(*ones_by_orders(slants)))


def grid_of(table):
    return [fractions_of(row) for row in table]


def table_of_grid(grid):
    return tuple(row_of_fractions(row) for row in grid)


def some_tables(size):
    """Tell several tables of shares of this size."""
    rows = rows_for(size)
    return [tuple(rows[(start + 5 * i) % len(rows)] for i in range(size)) for start in range(6)] + [
        ones(size), (noughts(size),) * size, (rows[0],) * size, table_of_grid([list(range(i, i + size)) for i in range(size)])]


def tables_near(table):
    """Tell things that come near a table of shares and are another one, or none."""
    size = len(table)
    near = [table[:at] + (row,) + table[at + 1:] for at in range(size) for row in rows_near(table[at])]
    near += [table[:at] + (row,) + table[at + 1:] for at in range(size) for row in (
        None, (), [], list(table[at]), table[at][:-1], table[at] + ((0, 1),), (table[at],), table[at] * 2, "row", {}, 0)]
    near += [table[:-1], table[1:], table + (noughts(size),), table + table[-1:], list(table), [list(row) for row in table],
             (table,), [table], str(table), {at: row for at, row in enumerate(table)}, (table, table), (), table * 2, None]
    near.append(tuple(row + ((0, 1),) for row in table))
    near.append(tuple(row + ((0, 1),) for row in table) + (noughts(size) + ((1, 1),),))
    return near


def no_tables(size):
    """Tell things that are no table of shares."""
    row = rows_for(size)[0]
    things = OTHER_THINGS + NO_SHARES + [
        ones(6), (noughts(6),) * 6, (noughts(size + 1),) * size, (noughts(size),) * (size + 1), (row,) * size + (None,), row,
        [row] * size, (list(row),) * size, str((row,) * size), ((),), ((), ()), ([],) * size, ((1,) * size,) * size,
        table_of(FULL_OF_EACH_SIZE[0]), tuple(map(tuple, table_by_places((1, 2, 3)))),
    ]
    return things + [(row,) * at + (thing,) + (row,) * (size - 1 - at) for at in range(size) for thing in no_rows(size)[::7]]


class NoSlantsGoes(Checks):
    def test_of_each_function(self):
        for thing in NO_SLANTS:
            for function in (back_of, two_rows, share_table):
                self.check_refused(NoSlants, function, thing)
            for other in (None, (), (((1, 1),),), (((1, 1),), ((1, 1),)), "back", [], thing):
                for function in (back_good, two_good):
                    self.check_refused(NoSlants, function, thing, other)


class BackOf(Checks):
    def test_written_out(self):
        self.assertEqual(back_of((2,)), (((1, 2),),))
        self.assertEqual(back_of((-50,)), (((-1, 50),),))
        self.assertEqual(back_of((1, 2, 3)), (((2, 1), (-3, 1)), ((-1, 1), (2, 1))))
        self.assertEqual(back_of((3, 0, 5)), (((0, 1), (1, 3)), ((1, 5), (0, 1))))
        one, nought, contrary = (1, 1), (0, 1), (-1, 1)
        self.assertEqual(back_of((0, 0, 1, 1, 0)), ((one, contrary, one), (nought, one, contrary), (nought, nought, one)))

    def test_of_full_slants_of_each_kind(self):
        for slants in FULL:
            told = back_of(slants)
            self.assertIs(type(told), tuple)
            self.assertEqual([type(row) for row in told], [tuple] * size_by_length(slants))
            self.assertEqual(told, back_by_orders(slants))

    def test_not_full(self):
        for slants in NOT_FULL:
            for function in (back_of, two_rows):
                self.check_refused(NotFull, function, slants)


class BackGood(Checks):
    def test_written_out(self):
        self.assertIs(back_good((2,), (((1, 2),),)), True)
        self.assertIs(back_good((2,), (((2, 1),),)), False)
        self.assertIs(back_good((1, 2, 3), (((2, 1), (-3, 1)), ((-1, 1), (2, 1)))), True)
        self.assertIs(back_good((1, 2, 3), (((2, 1), (-1, 1)), ((-3, 1), (2, 1)))), False)

    def test_the_back_alone(self):
        for slants in FULL:
            self.assertIs(back_good(slants, back_by_orders(slants)), True)
            for table in some_tables(size_by_length(slants)):
                self.assertIs(back_good(slants, table), table == back_by_orders(slants))

    def test_what_comes_near(self):
        for slants in FULL_OF_EACH_SIZE:
            back = back_by_orders(slants)
            self.check_none_good(back_good, slants, tables_near(back))

    def test_rows_exchanged_or_twice(self):
        for slants in FULL:
            back = back_by_orders(slants)
            size = len(back)
            for i in range(size):
                for j in range(i):
                    exchanged = list(back)
                    exchanged[i], exchanged[j] = exchanged[j], exchanged[i]
                    self.assertIs(back_good(slants, tuple(exchanged)), False)
                    self.assertIs(back_good(slants, back[:i] + (back[j],) + back[i + 1:]), False)

    def test_turned_about(self):
        for slants in FULL:
            back = back_by_orders(slants)
            turned = tuple(zip(*back))
            self.assertIs(back_good(slants, turned), turned == back)
            self.assertIs(back_good(slants[::-1], turned), True)

    def test_truths(self):
        self.assertIs(back_good((1,), (((1, 1),),)), True)
        for share in ((True, 1), (1, True), (True, True), [1, 1], (1, 1, 1), 1, True):
            self.assertIs(back_good((1,), ((share,),)), False)
        self.assertIs(back_good((0, 1, 0), (((1, 1), (0, 1)), ((False, 1), (1, 1)))), False)

    def test_other_things(self):
        for slants in FULL_OF_EACH_SIZE + NOT_FULL_OF_EACH_SIZE:
            self.check_none_good(back_good, slants, no_tables(size_by_length(slants)))

    def test_slants_that_are_not_full_have_none(self):
        for slants in NOT_FULL:
            for table in some_tables(size_by_length(slants)):
                self.assertIs(back_good(slants, table), False)


class TwoRows(Checks):
    def test_written_out(self):
        self.assertEqual(two_rows((2,)), (((1, 2),), ((1, 2),)))
        self.assertEqual(two_rows((1, 2, 3)), (((2, 1), (-1, 1)), ((-3, 1), (2, 1))))
        self.assertEqual(two_rows((3, 0, 5)), (((0, 1), (1, 5)), ((1, 3), (0, 1))))

    def test_are_the_outer_columns_of_the_back(self):
        for slants in FULL:
            told = two_rows(slants)
            self.assertIs(type(told), tuple)
            columns = list(zip(*back_by_orders(slants)))
            self.assertEqual(told, (columns[0], columns[-1]))


class TwoGood(Checks):
    def test_the_two_rows(self):
        for slants in FULL:
            rows = ones_by_orders(slants)
            self.assertIs(two_good(slants, (rows[0], rows[-1])), True)
            if rows[0] != rows[-1]:
                for thing in ((rows[-1], rows[0]), (rows[0], rows[0]), (rows[-1], rows[-1])):
                    self.assertIs(two_good(slants, thing), False)

    def test_what_comes_near(self):
        for slants in FULL_OF_EACH_SIZE:
            first, last = ones_by_orders(slants)[0], ones_by_orders(slants)[-1]
            things = [(row, last) for row in rows_near(first)] + [(first, row) for row in rows_near(last)]
            things += [
                [first, last], (first,), (last,), (first, last, last), (first, last, None), (list(first), last), (first, list(last)),
                (first, None), (None, last), first + last, ((first, last),), {0: first, 1: last}, str((first, last)), (first, ()),
                (first + ((0, 1),), last), (first, ((0, 1),) + last), (first[1:], last), (first, last[:-1]), ((), ()), ("full", first, last),
                (first, last) + tuple(ones_by_orders(slants)),
            ]
            self.check_none_good(two_good, slants, things)

    def test_other_things(self):
        for slants in FULL_OF_EACH_SIZE + NOT_FULL_OF_EACH_SIZE:
            size = size_by_length(slants)
            self.check_none_good(two_good, slants, OTHER_THINGS + NO_SHARES + rows_for(size) + some_tables(size))
            self.check_none_good(two_good, slants, [(thing, thing) for thing in no_rows(size)])

    def test_truths(self):
        self.assertIs(two_good((1,), (((1, 1),), ((1, 1),))), True)
        for share in ((True, 1), (1, True), [1, 1]):
            self.assertIs(two_good((1,), ((share,), ((1, 1),))), False)
            self.assertIs(two_good((1,), (((1, 1),), (share,))), False)

    def test_ones_that_are_not_full(self):
        # Such rows may be there without a back: asked is what times_row makes of them alone.
        for size in (3, 4, 5):
            slants = (2,) + (0,) * (2 * size - 3) + (3,)
            first, last = noughts(size - 1) + ((1, 3),), ((1, 2),) + noughts(size - 1)
            self.assertIs(two_good(slants, (first, last)), True)
            self.assertIs(two_good(slants, (last, first)), False)
        for slants in NOT_FULL_OF_EACH_SIZE:
            size = size_by_length(slants)
            for row in ones(size) + (noughts(size),):
                self.assertIs(two_good(slants, (row, row)), False)


class BackBy(Checks):
    def by_grids(self, first, last):
        """Tell the table by products of half tables of the rows, as fractions."""
        size = len(first)
        one, other = fractions_of(first), fractions_of(last)

        def below(row):
            return [[row[i - j] if i >= j else 0 for j in range(size)] for i in range(size)]

        def above(row):
            return [list(line) for line in zip(*below(row))]

        near = times_grid(below(one), above(other[::-1]))
        far = times_grid(below([0] + other[:-1]), above([0] + one[:0:-1]))
        return table_of_grid([[(a - b) / one[0] for a, b in zip(*lines)] for lines in zip(near, far)])

    def test_written_out(self):
        self.assertEqual(back_by(((1, 2),), ((1, 2),)), (((1, 2),),))
        self.assertEqual(back_by(((3, 1),), ((5, 7),)), (((5, 7),),))
        self.assertEqual(back_by(((2, 1), (-1, 1)), ((-3, 1), (2, 1))), (((2, 1), (-3, 1)), ((-1, 1), (2, 1))))
        # By 2: 2 * 7 and 2 * 5; then 3 * 7, and 3 * 5 less 5 * 3 and 2 * 7 more.
        self.assertEqual(back_by(((2, 1), (3, 1)), ((5, 1), (7, 1))), (((7, 1), (5, 1)), ((21, 2), (7, 1))))

    def test_of_any_two_rows(self):
        for size in range(1, 6):
            rows = rows_for(size)
            for first in rows:
                if first[0] == (0, 1):
                    continue
                for last in rows[::2] + [noughts(size)]:
                    told = back_by(first, last)
                    self.assertEqual(told, self.by_grids(first, last))
                    self.assertEqual({type(told)} | {type(row) for row in told}, {tuple})

    def test_no_row(self):
        for size in range(1, 6):
            row = ((3, 2),) + rows_for(size)[0][1:]
            for thing in no_rows(size):
                for first, last in ((thing, row), (row, thing), (thing, None), ((), thing)):
                    self.check_refused(NoRow, back_by, first, last)

    def test_unlike_many(self):
        for one in range(1, 6):
            for other in range(1, 6):
                if one != other:
                    self.check_refused(NoRow, back_by, ((1, 1),) * one, ((1, 1),) * other)

    def test_first_share_nought(self):
        for size in range(1, 6):
            self.check_refused(NoRow, back_by, ((0, 1),) + ((1, 1),) * (size - 1), ((1, 1),) * size)
            self.assertEqual(back_by(((1, 1),) * size, noughts(size))[0], noughts(size))

    def test_none_and_six(self):
        for many in (0, 6, 7, 20):
            self.check_refused(NoRow, back_by, ((1, 1),) * many, ((1, 1),) * many)


class TimesTable(Checks):
    def test_written_out(self):
        one, other = (((1, 2), (1, 3)), ((2, 1), (0, 1))), (((4, 1), (1, 1)), ((3, 1), (-1, 1)))
        self.assertEqual(times_table(one, other), (((3, 1), (1, 6)), ((8, 1), (2, 1))))
        self.assertEqual(times_table(other, one), (((4, 1), (4, 3)), ((-1, 2), (1, 1))))
        self.assertEqual(times_table((((2, 3),),), (((3, 4),),)), (((1, 2),),))

    def test_of_many(self):
        for size in range(1, 6):
            for one in some_tables(size):
                self.assertEqual(times_table(one, ones(size)), one)
                self.assertEqual(times_table(ones(size), one), one)
                for other in some_tables(size):
                    told = times_table(one, other)
                    self.assertEqual(told, table_of_grid(times_grid(grid_of(one), grid_of(other))))
                    self.assertEqual({type(told)} | {type(row) for row in told}, {tuple})

    def test_no_row(self):
        for size in range(1, 6):
            table = some_tables(size)[0]
            for thing in no_tables(size):
                for one, other in ((thing, table), (table, thing), (thing, thing), (thing, None), ((), thing)):
                    self.check_refused(NoRow, times_table, one, other)

    def test_unlike_many(self):
        for one in range(1, 6):
            for other in range(1, 6):
                if one != other:
                    self.check_refused(NoRow, times_table, ones(one), ones(other))


class ShareTable(Checks):
    def test_written_out(self):
        self.assertEqual(share_table((1, 2, 3)), (((2, 1), (3, 1)), ((1, 1), (2, 1))))
        self.assertEqual(share_table((0,)), (((0, 1),),))

    def test_of_many(self):
        for slants in MANY_SLANTS:
            told = share_table(slants)
            self.assertEqual(told, table_of_grid(table_by_places(slants)))
            self.assertEqual({type(told)} | {type(row) for row in told}, {tuple})


class WhatFollows(Checks):
    def test_two_rows_make_ones(self):
        for slants in FULL:
            size = size_by_length(slants)
            first, last = two_rows(slants)
            self.assertEqual(times_fractions(slants, first), one_alone(0, size))
            self.assertEqual(times_fractions(slants, last), one_alone(size - 1, size))
            self.assertEqual(times_row(slants, first), ones(size)[0])
            self.assertEqual(times_row(slants, last), ones(size)[-1])
            self.assertIs(two_good(slants, (first, last)), True)

    def test_two_rows_make_the_back(self):
        seen = set()
        for slants in FULL:
            first, last = two_rows(slants)
            seen.add((size_by_length(slants), first[0] == (0, 1)))
            if first[0] == (0, 1):
                self.check_refused(NoRow, back_by, first, last)
            else:
                self.assertEqual(back_by(first, last), back_of(slants))
        self.assertEqual(seen, {(size, truth) for size in range(1, 6) for truth in (False, True)} - {(1, True)})

    def test_the_back_times_the_table(self):
        for slants in FULL:
            size = size_by_length(slants)
            self.assertEqual(times_table(back_of(slants), share_table(slants)), ones(size))
            self.assertEqual(times_table(share_table(slants), back_of(slants)), ones(size))
            self.assertIs(back_good(slants, back_of(slants)), True)

    def test_the_back_is_alike_about_the_other_middle(self):
        for slants in FULL:
            back = back_of(slants)
            size = len(back)
            for i in range(size):
                for j in range(size):
                    self.assertEqual(back[i][j], back[size - 1 - j][size - 1 - i])

    def test_the_same_question_has_the_same_answer(self):
        kept = [(back_of(slants), two_rows(slants), share_table(slants)) for slants in FULL]
        again = [(back_of(slants), two_rows(slants), share_table(slants)) for slants in reversed(FULL)]
        self.assertEqual(kept, again[::-1])


if __name__ == "__main__":
    unittest.main()
