"""The inputs that the tests share have slants of each size and each kind."""

import unittest

from tests.reference import size_by_length
from tests.things import FULL_NOT_STRONG, NOT_FULL, STRONG


class Inputs(unittest.TestCase):
    def sizes(self, all_slants):
        return sorted({size_by_length(slants) for slants in all_slants})

    def test_strong_ones_of_each_size(self):
        self.assertEqual(self.sizes(STRONG), [1, 2, 3, 4, 5])

    def test_full_ones_that_are_not_strong_of_each_size_that_has_some(self):
        # Slants of size 1 are their own and only corner: full, they are strong.
        self.assertEqual(self.sizes(FULL_NOT_STRONG), [2, 3, 4, 5])

    def test_ones_that_are_not_full_of_each_size(self):
        self.assertEqual(self.sizes(NOT_FULL), [1, 2, 3, 4, 5])


if __name__ == "__main__":
    unittest.main()
