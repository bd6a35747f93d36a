"""Checks that several tests share."""

import copy
import unittest


class Checks(unittest.TestCase):
    """Tests that check that what is handed in stays, and that what is told is the asker's own."""

    def check_none_good(self, good, first, things):
        """Check that good tells False of each of the things, and leaves it as it was."""
        for thing in things:
            kept = copy.deepcopy(thing)
            with self.subTest((first, repr(thing)[:80])):
                self.assertIs(good(first, thing), False)
                self.assertEqual(repr(thing), repr(kept))

    def check_refused(self, error, function, *handed):
        """Check that a function refuses what is handed in with just this class, and leaves it as it was; tell the error."""
        kept = copy.deepcopy(handed)
        with self.subTest((function.__name__, repr(handed)[:120])):
            with self.assertRaises(error) as caught:
                function(*handed)
            self.assertIs(type(caught.exception), error)
            self.assertEqual(repr(handed), repr(kept))
            return caught.exception
        return None

    def check_own_list(self, function, *handed):
        """Check that a list that is told may be changed, and no later answer is."""
        told = function(*handed)
        self.assertIs(type(told), list)
        kept = copy.deepcopy(told)
        told.append(None)
        told[0] = None
        self.assertEqual(function(*handed), kept)
