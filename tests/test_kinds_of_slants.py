"""The inputs that the tests share have slants of each size and each kind."""

import unittest

from tests.reference import kind_by_orders, signs_by_changes, size_by_length
from tests.things import ABOVE, EVEN, EVEN_STRONG, FULL_NOT_STRONG, NOT_EVEN, NOT_FULL, STRONG


class Inputs(unittest.TestCase):
    def sizes(self, all_slants):
        return sorted({size_by_length(slants) for slants in all_slants})

    def test_strong_ones_of_each_size(self):
        self.assertEqual(self.sizes(STRONG), [1, 2, 3, 4, 5])

    def test_full_ones_that_are_not_strong_of_each_size_that_has_some(self):
        # Slants of size 1 are their own and only corner: full, they are strong.
        self.assertEqual(self.sizes(FULL_NOT_STRONG), [2, 3, 4, 5])

    def test_ones_that_are_not_full_of_each_size(self):
        self.assertEqual(self.sizes(NOT_FULL), [1, 2, 3, 4, 5])

    def test_even_ones_of_each_size_and_kind(self):
        for kind, sizes in (("strong", [1, 2, 3, 4, 5]), ("full", [2, 3, 4, 5]), ("not full", [1, 2, 3, 4, 5])):
            self.assertEqual(self.sizes([slants for slants in EVEN if kind_by_orders(slants) == kind]), sizes)
        # Slants of size 1 are always even.
        self.assertEqual(self.sizes(NOT_EVEN), [2, 3, 4, 5])
        self.assertEqual(self.sizes(EVEN_STRONG), [1, 2, 3, 4, 5])

    def test_even_ones_above_nought_at_it_and_below(self):
        self.assertEqual(self.sizes(ABOVE), [1, 2, 3, 4, 5])
        at = [slants for slants in EVEN if signs_by_changes(slants)[1] == 0 and signs_by_changes(slants)[2] > 0]
        self.assertEqual(self.sizes(at), [1, 2, 3, 4, 5])
        below = [slants for slants in EVEN if signs_by_changes(slants)[1] == size_by_length(slants)]
        self.assertEqual(self.sizes(below), [1, 2, 3, 4, 5])
        strong_but_not_above = [slants for slants in EVEN_STRONG if slants not in ABOVE]
        self.assertEqual(self.sizes(strong_but_not_above), [1, 2, 3, 4, 5])


if __name__ == "__main__":
    unittest.main()
