"""Strong slants, solved step by step [3.1], [3.2], [3.3], [3.4], [3.5]."""

import copy
import unittest

from slanttables.errors import NoNumber, NoRow, NoSlants, NotStrong
from slanttables.slants import corner, row_good, times_row, turned_slants
from slanttables.solving import first_weak, solved, solved_steps, solves, step_next, steps_of
from tests.checks import Checks
from tests.reference import (
    fractions_of, numbers_by_orders, one_alone, row_of_fractions, size_by_length, times_fractions,
)
from tests.things import (
    FULL_NOT_STRONG, MANY_SLANTS, NO_SHARES, NO_SLANTS, NOT_FULL, OTHER_THINGS, STRONG, no_rows, no_whole_rows, rows_for,
    rows_near, whole_rows_for,
)

WEAK = FULL_NOT_STRONG + NOT_FULL

STRONG_OF_EACH_SIZE = [(7,), (1, 2, 3), (5, -1, 3, 2, 4), (2, -1, 3, 5, 4, 0, 7), (1, 1, 0, 0, 2, 0, 3, 0, -1)]


def first_weak_size(slants):
    return numbers_by_orders(slants).index(0) + 1


class Refusals(Checks):
    def check_not_strong(self, slants, function, *others):
        with self.subTest((slants, function.__name__)):
            with self.assertRaises(NotStrong) as caught:
                function(slants, *others)
            self.assertEqual(caught.exception.size, first_weak_size(slants))
            self.assertIs(type(caught.exception.size), int)

    def test_no_slants_goes_ahead_of_all(self):
        for thing in NO_SLANTS:
            for right in ((1,), (1001,), None, "right"):
                for function in (step_next, solved, solved_steps):
                    with self.assertRaises(NoSlants):
                        function(thing, right)
                with self.assertRaises(NoSlants):
                    solves(thing, right, ((1, 1),))
            for function in (first_weak, steps_of):
                with self.assertRaises(NoSlants):
                    function(thing)

    def test_not_strong(self):
        for slants in WEAK:
            right = (1,) * size_by_length(slants)
            self.check_not_strong(slants, steps_of)
            self.check_not_strong(slants, solved, right)
            self.check_not_strong(slants, solved_steps, right)

    def test_not_strong_goes_ahead_of_no_number_and_no_row(self):
        for slants in WEAK:
            for thing in (None, (), (1001,) * size_by_length(slants), [0] * size_by_length(slants), "right"):
                self.check_not_strong(slants, solved, thing)
                self.check_not_strong(slants, solved_steps, thing)
            for thing in (None, (), (((1, 1),), ((1, 1),)), "step"):
                self.check_not_strong(slants, step_next, thing)

    def test_not_strong_where_only_the_last_corner_is_not_full(self):
        slants = (1, 2, 3, 4, 5)
        self.check_not_strong(slants, step_next, steps_of(corner(slants, 2))[-1])
        self.check_not_strong((0,), step_next, None)
        self.check_not_strong((0,), steps_of)

    def test_no_number_of_size_one(self):
        for slants in ((7,), (-50,), (1,)):
            for thing in (None, (), ((), ()), (((1, 1),), ((1, 1),)), steps_of(slants)[0], "step", [], True):
                with self.assertRaises(NoNumber):
                    step_next(slants, thing)

    def test_no_row_of_whole_numbers(self):
        for slants in STRONG_OF_EACH_SIZE:
            for thing in no_whole_rows(size_by_length(slants)):
                for function in (solved, solved_steps):
                    self.check_refused(NoRow, function, slants, thing)


class FirstWeak(Checks):
    def test_written_out(self):
        self.assertIsNone(first_weak((7,)))
        self.assertEqual(first_weak((0,)), 1)
        self.assertEqual(first_weak((3, 0, 5)), 1)
        self.assertEqual(first_weak((1, 2, 3, 4, 5)), 3)
        self.assertEqual(first_weak((50,) * 9), 2)

    def test_none_of_strong_ones(self):
        for slants in STRONG:
            self.assertIsNone(first_weak(slants))

    def test_the_first_of_others(self):
        for slants in WEAK:
            self.assertEqual(first_weak(slants), first_weak_size(slants))


class Steps(Checks):
    def test_written_out(self):
        self.assertEqual(steps_of((7,)), [(((1, 7),), ((1, 7),))])
        self.assertEqual(steps_of((-4,)), [(((-1, 4),), ((-1, 4),))])
        self.assertEqual(steps_of((1, 2, 3)), [
            (((1, 2),), ((1, 2),)), (((2, 1), (-1, 1)), ((-3, 1), (2, 1)))])

    def test_each_row_makes_one_at_its_place(self):
        for slants in STRONG:
            told = steps_of(slants)
            self.assertIs(type(told), list)
            self.assertEqual(len(told), size_by_length(slants))
            for size, step in enumerate(told, start=1):
                self.assertIs(type(step), tuple)
                first, last = step
                small = corner(slants, size)
                self.assertIs(row_good(small, first), True)
                self.assertIs(row_good(small, last), True)
                self.assertEqual(times_fractions(small, first), one_alone(0, size))
                self.assertEqual(times_fractions(small, last), one_alone(size - 1, size))

    def test_are_the_askers_own(self):
        for slants in STRONG_OF_EACH_SIZE:
            self.check_own_list(steps_of, slants)


class StepNext(Checks):
    def test_written_out(self):
        self.assertEqual(step_next((1, 2, 3), (((1, 2),), ((1, 2),))), (((2, 1), (-1, 1)), ((-3, 1), (2, 1))))

    def test_leads_from_step_to_step(self):
        for slants in STRONG:
            steps = steps_of(slants)
            for size in range(2, size_by_length(slants) + 1):
                told = step_next(corner(slants, size), steps[size - 2])
                self.assertEqual(told, steps[size - 1])
                self.assertIs(type(told), tuple)

    def other_steps(self, slants):
        """Tell things that are no step of the corner of these slants one less."""
        steps = steps_of(slants)
        first, last = steps[-2]
        things = OTHER_THINGS + NO_SHARES + [
            [first, last], (first,), (first, last, last), (first, last, None), {0: first, 1: last}, (list(first), last),
            (first, list(last)), first + last, (first, None), (None, last), (first, ()), ((), last), ((), ()), str((first, last)),
            steps[-1], (first + ((0, 1),), last), (first, ((0, 1),) + last), (first[1:], last), (first, last[:-1]),
            ((first, last),), ((first, last), (first, last)),
        ]
        if first != last:
            things += [(last, first), (first, first), (last, last)]
        things += [(other, last) for other in rows_near(first)] + [(first, other) for other in rows_near(last)]
        return things

    def test_no_row(self):
        for slants in STRONG_OF_EACH_SIZE[1:]:
            for thing in self.other_steps(slants):
                self.check_refused(NoRow, step_next, slants, thing)

    def test_truths_are_no_numbers_in_it(self):
        self.assertEqual(step_next((5, 1, 0), (((1, 1),), ((1, 1),))), (((1, 1), (-5, 1)), ((0, 1), (1, 1))))
        for first, last in [((True, 1), (1, 1)), ((1, True), (1, 1)), ((1, 1), (True, 1)), ((1, 1), (1, True))]:
            with self.assertRaises(NoRow):
                step_next((5, 1, 0), ((first,), (last,)))

    def test_step_of_other_slants(self):
        one, other = (5, 0, 1, 2, 0), (5, 1, 3, 2, 0)
        self.assertEqual(step_next(one, steps_of(one)[1]), steps_of(one)[2])
        for mine, yours in ((one, other), (other, one)):
            with self.assertRaises(NoRow):
                step_next(mine, steps_of(yours)[1])


class Solved(Checks):
    def test_written_out(self):
        self.assertEqual(solved((7,), (3,)), ((3, 7),))
        self.assertEqual(solved((-4,), (6,)), ((-3, 2),))
        self.assertEqual(solved((1, 2, 3), (5, 6)), ((-8, 1), (7, 1)))
        self.assertEqual(solved_steps((1, 2, 3), (5, 6)), [((5, 2),), ((-8, 1), (7, 1))])

    def test_makes_the_row(self):
        for slants in STRONG:
            for right in whole_rows_for(size_by_length(slants))[::2]:
                told = solved(slants, right)
                self.assertIs(row_good(slants, told), True)
                self.assertEqual(times_fractions(slants, told), list(right))

    def test_steps_solve_the_corners(self):
        for slants in STRONG:
            for right in whole_rows_for(size_by_length(slants))[::3]:
                told = solved_steps(slants, right)
                self.assertIs(type(told), list)
                self.assertEqual(len(told), size_by_length(slants))
                for size, row in enumerate(told, start=1):
                    self.assertIs(row_good(corner(slants, size), row), True)
                    self.assertEqual(times_fractions(corner(slants, size), row), list(right[:size]))
                self.assertEqual(told[-1], solved(slants, right))

    def test_steps_are_the_askers_own(self):
        told = solved_steps((1, 2, 3), (5, 6))
        told.reverse()
        told.append(())
        self.assertEqual(solved_steps((1, 2, 3), (5, 6)), [((5, 2),), ((-8, 1), (7, 1))])


class Solves(Checks):
    def test_written_out(self):
        self.assertIs(solves((1, 2, 3), (5, 6), ((-8, 1), (7, 1))), True)
        self.assertIs(solves((1, 2, 3), (5, 6), ((7, 1), (-8, 1))), False)
        self.assertIs(solves((1, 2, 3), (5, 7), ((-8, 1), (7, 1))), False)
        self.assertIs(solves((0,), (0,), ((22, 7),)), True)
        self.assertIs(solves((0,), (1,), ((22, 7),)), False)

    def test_what_is_solved(self):
        for slants in STRONG:
            for right in whole_rows_for(size_by_length(slants))[::4]:
                row = solved(slants, right)
                self.assertIs(solves(slants, right, row), True)
                for place, (top, bottom) in enumerate(row):
                    other = row[:place] + ((top + bottom, bottom),) + row[place + 1:]
                    self.assertIs(solves(slants, right, other), False)

    def test_slants_strong_or_not(self):
        for slants in MANY_SLANTS:
            size = size_by_length(slants)
            for row in [tuple((number, 1) for number in (2, -3, 0, 1, 4)[:size]), ((0, 1),) * size, ((1, 1),) * size]:
                right = tuple(share[0] for share in times_row(slants, row))
                self.assertIs(solves(slants, right, row), True)
                for place in range(size):
                    other = right[:place] + (right[place] + 1,) + right[place + 1:]
                    self.assertIs(solves(slants, other, row), False)

    def test_shares_that_make_whole_numbers(self):
        self.assertIs(solves((4, 4, 4), (2, 2), ((1, 4), (1, 4))), True)
        self.assertIs(solves((4, 4, 4), (2, 2), ((1, 3), (1, 6))), True)
        self.assertIs(solves((4, 4, 4), (2, 2), ((1, 3), (1, 3))), False)

    def test_other_things(self):
        for slants in STRONG_OF_EACH_SIZE + [(0,), (4, 4, 4), (0,) * 5, (1, 2, 3, 4, 5), (0,) * 7, (0,) * 9]:
            size = size_by_length(slants)
            for thing in no_rows(size):
                kept = copy.deepcopy(thing)
                self.assertIs(solves(slants, (0,) * size, thing), False)
                self.assertEqual(repr(thing), repr(kept))
            self.assertIs(solves(slants, (0,) * size, (0,) * size), False)
            self.assertIs(solves(slants, (0,) * size, ((False, 1),) * size), False)
            self.assertIs(solves(slants, (0,) * size, ((0, 1),) * size), True)

    def test_no_row_of_whole_numbers(self):
        for slants in STRONG_OF_EACH_SIZE + [(0,), (4, 4, 4), (0,) * 5, (1, 2, 3, 4, 5), (0,) * 7, (0,) * 9]:
            size = size_by_length(slants)
            for right in no_whole_rows(size):
                for thing in (((0, 1),) * size, None):
                    with self.subTest((slants, repr(right)[:60])):
                        with self.assertRaises(NoRow):
                            solves(slants, right, thing)


class WhatFollows(Checks):
    def test_first_row_from_behind_is_the_last_row_of_the_turned_corner(self):
        for slants in STRONG:
            turned = steps_of(turned_slants(slants))
            for (first, last), (turned_first, turned_last) in zip(steps_of(slants), turned):
                self.assertEqual(first[::-1], turned_last)
                self.assertEqual(last[::-1], turned_first)

    def test_the_outer_shares_are_one_and_never_nought(self):
        for slants in STRONG:
            for first, last in steps_of(slants):
                self.assertEqual(first[0], last[-1])
                self.assertNotEqual(first[0], (0, 1))

    def test_sum_of_what_solves_the_parts(self):
        for slants in STRONG:
            for right in whole_rows_for(size_by_length(slants))[::4]:
                one = tuple(number // 3 for number in right)
                other = tuple(number - part for number, part in zip(right, one))
                parts = zip(fractions_of(solved(slants, one)), fractions_of(solved(slants, other)))
                self.assertEqual(solved(slants, right), row_of_fractions(a + b for a, b in parts))

    def test_others_have_no_steps_but_rows_may_solve_them(self):
        for slants in WEAK:
            size = size_by_length(slants)
            for function in (steps_of, lambda thing: solved(thing, (0,) * size)):
                with self.assertRaises(NotStrong):
                    function(slants)
            self.assertIs(solves(slants, (0,) * size, ((0, 1),) * size), True)

    def test_the_same_question_has_the_same_answer(self):
        kept = [(steps_of(slants), solved(slants, (1,) * size_by_length(slants))) for slants in STRONG]
        for slants in reversed(STRONG):
            times_row(slants, rows_for(size_by_length(slants))[0])
        again = [(steps_of(slants), solved(slants, (1,) * size_by_length(slants))) for slants in STRONG]
        self.assertEqual(kept, again)


if __name__ == "__main__":
    unittest.main()
