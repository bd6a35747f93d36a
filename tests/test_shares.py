"""Whole numbers, shares and rows of shares, reckoned with exactly [0.3]."""

import unittest
from fractions import Fraction

from slanttables import shares
from tests.reference import fractions_of, row_of_fractions
from tests.things import NO_SHARES, OTHER_THINGS, SOME_SHARES, rows_for


def fraction(share):
    return Fraction(share[0], share[1])


class Kinds(unittest.TestCase):
    def test_whole_numbers(self):
        for number in (0, 1, -1, 10 ** 39, -(10 ** 39)):
            self.assertIs(shares.is_whole(number), True)

    def test_truths_and_other_things_are_no_whole_numbers(self):
        for thing in (True, False, None, "1", [1], (1,), {1: 1}, ""):
            with self.subTest(repr(thing)):
                self.assertIs(shares.is_whole(thing), False)

    def test_within_has_both_ends(self):
        self.assertEqual([shares.is_within(number, -2, 3) for number in range(-4, 6)],
                         [False, False, True, True, True, True, True, True, False, False])
        for thing in (True, False, None, "1", [1], (1,), {}):
            self.assertIs(shares.is_within(thing, -2, 3), False)

    def test_tuples_within(self):
        for thing in ((), (3,), (-2, 3, 0)):
            self.assertIs(shares.are_within(thing, -2, 3), True)
        for thing in ((4,), (-3,), (0, 4), (4, 0), [0], [], 0, "", {}, None, (True,), (0, False), ("0",), ((0,),)):
            self.assertIs(shares.are_within(thing, -2, 3), False)

    def test_shares(self):
        for share in SOME_SHARES:
            with self.subTest(share):
                self.assertIs(shares.is_share(share), True)

    def test_no_shares(self):
        for thing in NO_SHARES + OTHER_THINGS:
            with self.subTest(repr(thing)[:60]):
                self.assertIs(shares.is_share(thing), False)

    def test_small_shares_are_those_that_fractions_tell(self):
        for top in range(-12, 13):
            for bottom in range(-3, 13):
                lowest = bottom > 0 and Fraction(top, bottom).denominator == bottom
                self.assertIs(shares.is_share((top, bottom)), lowest)

    def test_rows(self):
        self.assertIs(shares.is_row((), 0), True)
        self.assertIs(shares.is_row(((1, 2), (0, 1)), 2), True)
        self.assertIs(shares.is_row(((1, 2), (0, 1)), 1), False)
        self.assertIs(shares.is_row(((1, 2), (0, 1)), 3), False)
        self.assertIs(shares.is_row([(1, 2), (0, 1)], 2), False)
        self.assertIs(shares.is_row(((1, 2), (0, 2)), 2), False)

    def test_rows_of_so_many_at_least_and_at_most(self):
        row = ((1, 2),) * 5
        self.assertEqual([shares.is_row_within(row[:many], 1, 3) for many in range(6)], [False, True, True, True, False, False])
        self.assertEqual([shares.is_row_within(row[:many], 0, 1) for many in range(3)], [True, True, False])
        for thing in ([(1, 2)], ((2, 4),), ((1, 2), None), (1,), None, "", [], {}, 1, (True,)):
            self.assertIs(shares.is_row_within(thing, 0, 3), False)


class Reckoning(unittest.TestCase):
    def check(self, told, expected):
        self.assertIs(shares.is_share(told), True)
        self.assertEqual(told, (expected.numerator, expected.denominator))

    def test_share_by(self):
        for top in range(-12, 13):
            for bottom in range(-12, 13):
                if bottom != 0:
                    self.check(shares.share_by(top, bottom), Fraction(top, bottom))

    def test_sums_differences_and_products(self):
        for one in SOME_SHARES:
            for other in SOME_SHARES:
                self.check(shares.plus(one, other), fraction(one) + fraction(other))
                self.check(shares.minus(one, other), fraction(one) - fraction(other))
                self.check(shares.times(one, other), fraction(one) * fraction(other))

    def test_one_by_another(self):
        for one in SOME_SHARES:
            for other in SOME_SHARES:
                if other != (0, 1):
                    self.check(shares.by(one, other), fraction(one) / fraction(other))

    def test_nothing_is_divided_by_nought(self):
        with self.assertRaises(AssertionError):
            shares.by((1, 2), (0, 1))

    def test_whole_numbers_as_a_row(self):
        self.assertEqual(shares.row_of([3, 0, -4]), ((3, 1), (0, 1), (-4, 1)))
        self.assertEqual(shares.row_of([]), ())

    def test_one_at_a_place(self):
        self.assertEqual(shares.one_at(0, 1), ((1, 1),))
        self.assertEqual(shares.one_at(1, 3), ((0, 1), (1, 1), (0, 1)))

    def test_row_by_a_share(self):
        for row in rows_for(3):
            for share in SOME_SHARES:
                if share != (0, 1):
                    expected = row_of_fractions([part / fraction(share) for part in fractions_of(row)])
                    self.assertEqual(shares.row_by(row, share), expected)

    def test_row_less_a_share_of_another(self):
        for one, other in zip(rows_for(3), rows_for(3)[5:]):
            for share in SOME_SHARES:
                parts = zip(fractions_of(one), fractions_of(other))
                expected = row_of_fractions([mine - fraction(share) * yours for mine, yours in parts])
                self.assertEqual(shares.row_less(one, share, other), expected)

    def test_sum_of_products(self):
        self.assertEqual(shares.sum_of_products((), ()), (0, 1))
        for one in rows_for(3):
            for other in rows_for(3):
                expected = sum(a * b for a, b in zip(fractions_of(one), fractions_of(other)))
                self.assertEqual((shares.sum_of_products(one, other),), row_of_fractions([Fraction(expected)]))


if __name__ == "__main__":
    unittest.main()
