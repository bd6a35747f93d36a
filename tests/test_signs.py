"""Signs told [7.1], [7.2], [7.3], [7.4], [7.5]."""

import unittest
from fractions import Fraction

from slanttables.errors import NoRow, NoSlants, NotEven, NotStrong
from slanttables.fullness import free_many, free_rows
from slanttables.signs import corner_signs, form_at, sign_paper, sign_paper_good, signs_by, signs_of
from slanttables.slants import row_good
from slanttables.squares import squares_of, step_squares
from tests.checks import Checks
from tests.reference import (
    columns_rank, fractions_of, numbers_by_orders, one_alone, pair_by_places, row_of_fractions, signs_by_changes, size_by_length,
)
from tests.things import (
    EVEN, EVEN_OF_EACH_SIZE, EVEN_STRONG, EVEN_WEAK, NO_SHARES, NO_SLANTS, NOT_EVEN, OTHER_THINGS, no_rows, noughts, rows_for,
    rows_near,
)


def sum_of_rows(one, other):
    return row_of_fractions([a + b for a, b in zip(fractions_of(one), fractions_of(other))])


def taken(row, number):
    return row_of_fractions([number * share for share in fractions_of(row)])


def is_paper(slants, rows):
    """Tell, by reckoning with fractions, whether these rows of shares, as many as the size, are a sign paper."""
    if columns_rank([fractions_of(row) for row in rows]) < len(rows):
        return False
    return all(pair_by_places(slants, rows[i], rows[j]) == 0 for j in range(len(rows)) for i in range(j))


def other_papers(slants):
    """Tell sign papers made out of the one that is told."""
    paper = sign_paper(slants)
    free = free_rows(slants)
    apart = [row for row in paper if form_at(slants, row) != (0, 1)]
    # Whatever row is taken for the one that makes noughts, it is apart from all.
    sums = [sum_of_rows(free[0], row) for row in free[1:]] + free[:1]
    return [
        paper[::-1], [taken(row, Fraction(-3, 7)) for row in paper], [row[::-1] for row in paper], apart + free, apart + sums[:len(free)],
        [sum_of_rows(row, free[0]) for row in apart] + free if free else paper, paper[1:] + paper[:1],
    ]


def papers_near(paper):
    """Tell things that come near a sign paper and are none, whatever the slants are."""
    size = len(paper)
    near = [tuple(paper), paper[:-1], paper[1:], paper + [noughts(size)], paper + paper[-1:], [paper], (paper,), str(paper), None,
            {at: row for at, row in enumerate(paper)}, [list(row) for row in paper], paper * 2, [noughts(size)] * size,
            [row + ((0, 1),) for row in paper], [row + ((0, 1),) for row in paper] + [noughts(size) + ((1, 1),)]]
    for at, row in enumerate(paper):
        others = [noughts(size), None, (), [], {}, list(row), row[:-1], row + ((0, 1),), (row,), "row", row * 2]
        others += [other for other in rows_near(row) if not row_good((0,) * (2 * size - 1), other)]
        others += [taken(paper[other], Fraction(2)) for other in range(size) if other != at]
        if size > 2:
            others.append(sum_of_rows(paper[at - 1], paper[at - 2]))
        near += [paper[:at] + [other] + paper[at + 1:] for other in others]
    return near


class Refusals(Checks):
    def test_no_slants(self):
        for thing in NO_SLANTS:
            for function in (signs_of, sign_paper, corner_signs):
                self.check_refused(NoSlants, function, thing)
            for other in (None, [], [((1, 1),)], ((1, 1),), "paper", thing):
                for function in (form_at, sign_paper_good, signs_by):
                    self.check_refused(NoSlants, function, thing, other)

    def test_not_even(self):
        for slants in NOT_EVEN:
            size = size_by_length(slants)
            for function in (signs_of, sign_paper, corner_signs):
                self.check_refused(NotEven, function, slants)
            for other in (None, [], ((1, 1),) * size, [((1, 1),) * size] * size, "paper"):
                for function in (form_at, sign_paper_good, signs_by):
                    self.check_refused(NotEven, function, slants, other)

    def test_not_strong(self):
        for slants in EVEN_WEAK:
            size = self.check_refused(NotStrong, corner_signs, slants).size
            self.assertEqual(size, numbers_by_orders(slants).index(0) + 1)
            self.assertIs(type(size), int)

    def test_not_even_goes_ahead_of_not_strong(self):
        for slants in ((1, 0, 2), (1, 1, 2), (1, 2, 3, 4, 5), (0, 0, 0, 0, 1)):
            self.check_refused(NotEven, corner_signs, slants)

    def test_no_row(self):
        for slants in EVEN_OF_EACH_SIZE:
            for thing in no_rows(size_by_length(slants)):
                self.check_refused(NoRow, form_at, slants, thing)

    def test_no_sign_paper(self):
        for slants in EVEN_OF_EACH_SIZE:
            for thing in papers_near(sign_paper(slants)) + OTHER_THINGS + NO_SHARES + rows_for(size_by_length(slants)):
                self.check_refused(NoRow, signs_by, slants, thing)


class FormAt(Checks):
    def test_written_out(self):
        self.assertEqual(form_at((3,), ((1, 2),)), (3, 4))
        self.assertEqual(form_at((1, 2, 1), ((1, 1), (2, 1))), (14, 1))
        self.assertEqual(form_at((2, 1, 2), ((1, 1), (-1, 1))), (-2, 1))
        self.assertEqual(form_at((1, 0, 1), ((1, 3), (0, 1))), (0, 1))
        self.assertEqual(form_at((0, 0, 0), ((22, 7), (1, 1))), (0, 1))

    def test_of_many(self):
        for slants in EVEN[::2]:
            for row in rows_for(size_by_length(slants))[::2]:
                self.assertEqual(form_at(slants, row), row_of_fractions([pair_by_places(slants, row, row)])[0])


class Signs(Checks):
    def test_written_out(self):
        self.assertEqual(signs_of((7,)), (1, 0, 0))
        self.assertEqual(signs_of((-7,)), (0, 1, 0))
        self.assertEqual(signs_of((0,)), (0, 0, 1))
        self.assertEqual(signs_of((1, 0, 1)), (1, 1, 0))
        self.assertEqual(signs_of((3, 3, 3)), (1, 0, 1))
        self.assertEqual(signs_of((-3, -3, -3)), (0, 1, 1))
        self.assertEqual(signs_of((1, 0, 0, 0, 1)), (1, 1, 1))
        self.assertEqual(signs_of((0, 0, 1, 0, 0)), (3, 0, 0))
        self.assertEqual(signs_of((1, 0, 0, 0, 0, 0, 0, 0, 1)), (1, 1, 3))
        self.assertEqual(signs_of((0,) * 9), (0, 0, 5))

    def test_of_many(self):
        for slants in EVEN:
            told = signs_of(slants)
            self.assertEqual(told, signs_by_changes(slants))
            self.assertIs(type(told), tuple)
            self.assertEqual({type(number) for number in told}, {int})
            self.assertEqual(sum(told), size_by_length(slants))


class SignPapers(Checks):
    def test_the_paper_that_is_told(self):
        for slants in EVEN:
            paper = sign_paper(slants)
            self.assertIs(type(paper), list)
            self.assertEqual(len(paper), size_by_length(slants))
            for row in paper:
                self.assertIs(row_good(slants, row), True)
            self.assertTrue(is_paper(slants, paper))
            self.assertIs(sign_paper_good(slants, paper), True)

    def test_written_out(self):
        one, other = ((1, 1), (1, 1)), ((1, 1), (-1, 1))
        self.assertIs(sign_paper_good((5, 1, 5), [one, other]), True)
        self.assertEqual(signs_by((5, 1, 5), [one, other]), (1, 1, 0))
        self.assertEqual(signs_by((5, 1, 5), [other, one]), (1, 1, 0))
        self.assertEqual(signs_by((1, 5, 1), [one, other]), (2, 0, 0))
        self.assertEqual(signs_by((2, 2, 2), [one, other]), (1, 0, 1))
        self.assertEqual(signs_by((2, -2, 2), [one, other]), (0, 1, 1))
        self.assertIs(sign_paper_good((5, 1, 5), [one, one]), False)
        self.assertIs(sign_paper_good((5, 1, 5), [((1, 1), (0, 1)), ((0, 1), (1, 1))]), False)
        self.assertIs(sign_paper_good((0, 1, 0), [((1, 1), (0, 1)), ((0, 1), (1, 1))]), True)
        self.assertIs(sign_paper_good((3,), [((-2, 5),)]), True)
        self.assertIs(sign_paper_good((3,), [((0, 1),)]), False)
        self.assertIs(sign_paper_good((0,), [((0, 1),)]), False)

    def test_other_papers(self):
        for slants in EVEN[::3]:
            for paper in other_papers(slants):
                self.assertEqual(len(paper), size_by_length(slants))
                self.assertTrue(is_paper(slants, paper))
                self.assertIs(sign_paper_good(slants, paper), True)
                self.assertEqual(signs_by(slants, paper), signs_by_changes(slants))

    def test_any_rows(self):
        for slants in EVEN[::7] + EVEN_OF_EACH_SIZE:
            size = size_by_length(slants)
            ones = [row_of_fractions(one_alone(place, size)) for place in range(size)]
            paper = sign_paper(slants)
            lists = [ones, ones[::-1], rows_for(size)[:size], rows_for(size)[2:2 + size], [noughts(size)] * size]
            lists += [paper[:at] + [sum_of_rows(paper[at], row)] + paper[at + 1:] for at in range(size) for row in paper]
            lists += [paper[:at] + [row] + paper[at + 1:] for at in range(size) for row in ones[:1] + ones[-1:]]
            for rows in lists:
                good = is_paper(slants, rows)
                self.assertIs(sign_paper_good(slants, rows), good)
                if good:
                    self.assertEqual(signs_by(slants, rows), signs_by_changes(slants))
                else:
                    self.check_refused(NoRow, signs_by, slants, rows)

    def test_what_comes_near(self):
        for slants in EVEN_OF_EACH_SIZE:
            self.check_none_good(sign_paper_good, slants, papers_near(sign_paper(slants)))

    def test_one_share_otherwise(self):
        for slants in EVEN_OF_EACH_SIZE:
            paper = sign_paper(slants)
            for at, row in enumerate(paper):
                for other in rows_near(row):
                    if row_good(slants, other):
                        rows = paper[:at] + [other] + paper[at + 1:]
                        self.assertIs(sign_paper_good(slants, rows), is_paper(slants, rows))

    def test_rows_that_are_sums_of_others_though_apart(self):
        # By noughts any two rows are apart; then they alone must not be sums of one another.
        for size in range(1, 6):
            slants = (0,) * (2 * size - 1)
            for rows in ([rows_for(size)[0]] * size, [noughts(size)] * size, rows_for(size)[:size]):
                self.assertIs(sign_paper_good(slants, rows), is_paper(slants, rows))
            self.assertIs(sign_paper_good(slants, [((1, 1),) * size] * size), size == 1)

    def test_truths(self):
        self.assertIs(sign_paper_good((1,), [((1, 1),)]), True)
        for share in ((True, 1), (1, True), [1, 1], (2, 2), (1, -1), (1, 0)):
            self.assertIs(sign_paper_good((1,), [(share,)]), False)

    def test_other_things(self):
        for slants in EVEN_OF_EACH_SIZE:
            size = size_by_length(slants)
            things = OTHER_THINGS + NO_SHARES + rows_for(size)
            things += [[thing] * size for thing in OTHER_THINGS + NO_SHARES + no_rows(size)[::4]]
            self.check_none_good(sign_paper_good, slants, things)

    def test_are_the_askers_own(self):
        for slants in EVEN_OF_EACH_SIZE:
            self.check_own_list(sign_paper, slants)


class CornerSigns(Checks):
    def test_written_out(self):
        self.assertEqual(corner_signs((7,)), [1])
        self.assertEqual(corner_signs((-7,)), [-1])
        self.assertEqual(corner_signs((1, 2, 1)), [1, 1])
        self.assertEqual(corner_signs((2, 1, 2)), [1, -1])
        self.assertEqual(corner_signs((1, -2, 1)), [-1, -1])
        self.assertEqual(corner_signs((2, -1, 2)), [-1, 1])

    def test_of_many(self):
        for slants in EVEN_STRONG:
            told = corner_signs(slants)
            self.assertIs(type(told), list)
            self.assertEqual({type(sign) for sign in told}, {int})
            numbers = [1] + numbers_by_orders(slants)
            for sign, one, other in zip(told, numbers[:-1], numbers[1:], strict=True):
                self.assertEqual(sign, 1 if (one > 0) == (other > 0) else -1)

    def test_are_the_askers_own(self):
        for slants in EVEN_STRONG:
            self.check_own_list(corner_signs, slants)


class WhatFollows(Checks):
    def test_corner_signs_are_those_of_the_squares(self):
        for slants in EVEN_STRONG:
            above, below, none = signs_of(slants)
            told = corner_signs(slants)
            self.assertEqual((told.count(1), told.count(-1), 0), (above, below, none))
            for squares in (squares_of(slants), step_squares(slants)):
                self.assertEqual(told.count(1), len([weight for weight, row in squares if weight[0] > 0]))
                self.assertEqual(told.count(-1), len([weight for weight, row in squares if weight[0] < 0]))

    def test_each_number_of_signs_of_each_size(self):
        seen = {signs_of(slants) for slants in EVEN}
        self.assertEqual(seen, {(above, below, size - above - below) for size in range(1, 6)
                                for above in range(size + 1) for below in range(size + 1 - above)})

    def test_each_sign_paper_shows_the_signs(self):
        for slants in EVEN:
            self.assertEqual(signs_by(slants, sign_paper(slants)), signs_of(slants))

    def test_contrary_slants_have_above_and_below_exchanged(self):
        for slants in EVEN:
            above, below, none = signs_of(slants)
            contrary = tuple(-number for number in slants)
            self.assertEqual(signs_of(contrary), (below, above, none))
            self.assertEqual(signs_by(contrary, sign_paper(slants)), (below, above, none))

    def test_none_is_how_many_rows_are_free(self):
        for slants in EVEN:
            self.assertEqual(signs_of(slants)[2], free_many(slants))

    def test_the_same_question_has_the_same_answer(self):
        kept = [(signs_of(slants), sign_paper(slants)) for slants in EVEN[::4]]
        again = [(signs_of(slants), sign_paper(slants)) for slants in reversed(EVEN[::4])]
        self.assertEqual(kept, again[::-1])


if __name__ == "__main__":
    unittest.main()
