"""Even slants and sums of squares [6.1], [6.2], [6.3], [6.4], [6.5]."""

import unittest
from fractions import Fraction

from slanttables.corners import corner_numbers
from slanttables.errors import NoRow, NoSlants, NotEven, NotStrong
from slanttables.fullness import free_rows, rank_of
from slanttables.slants import corner, row_good
from slanttables.squares import (
    above_good, above_paper, is_above, is_even, pair_at, squares_good, squares_of, step_squares, steps_weights,
)
from tests.checks import Checks
from tests.reference import (
    columns_rank, fractions_of, numbers_by_orders, pair_by_places, row_of_fractions, size_by_length, table_by_places,
)
from tests.things import (
    ABOVE, EVEN, EVEN_OF_EACH_SIZE, EVEN_STRONG, EVEN_WEAK, MANY_SLANTS, NO_SHARES, NO_SLANTS, NOT_ABOVE, NOT_EVEN, OTHER_THINGS,
    next_share, no_rows, noughts, rows_for, rows_near,
)

NO_WORDS = ["", "Above", "above ", "NOT", "not ", "none", "full", None, True, 0, ["above"], ("not",), {}, [], ()]


def table_by_squares(squares, size):
    """Tell the table of fractions that the squares come to."""
    parts = [(Fraction(*weight), fractions_of(row)) for weight, row in squares]
    return [[sum(weight * row[i] * row[j] for weight, row in parts) for j in range(size)] for i in range(size)]


def number_squares(size):
    """Tell squares of many tuples of each even slants of this size, made out of a few rows: (slants, squares)."""
    one = row_of_fractions([Fraction(1)] * size)
    turns = row_of_fractions([Fraction((-1) ** at) for at in range(size)])
    return [
        ((3,) * (2 * size - 1), [((3, 1), one)]),
        ((3,) * (2 * size - 1), [((4, 1), one), ((-1, 1), one)]),
        ((2,) * (2 * size - 1), [((1, 2), row_of_fractions([Fraction(2)] * size))]),
        (tuple((-1) ** (at + size) * 5 for at in range(1, 2 * size)), [((5, 1), turns)]),
        ((0,) * (2 * size - 1), [((1, 1), one), ((-1, 1), one)]),
        ((0,) * (2 * size - 1), [((1, 1), noughts(size))]),
        ((0,) * (2 * size - 1), []),
    ]


def unit_squares(size):
    """Tell the squares of the slants that are 1 in the middle and 0 else."""
    return [((1, 1), row_of_fractions([Fraction(int(at == place)) for at in range(size)])) for place in range(size)]


def squares_near(squares, size):
    """Tell things that come near squares and are none of the same slants."""
    near = [tuple(squares), squares + [None], [squares], (squares,), str(squares), {at: part for at, part in enumerate(squares)},
            squares + [((1, 1), ((1, 1),) * size)], squares + [((1, 1), noughts(size + 1))], squares + [((0, 1), noughts(size))],
            squares + [((1, 1), noughts(size), None)], squares + [((1, 1),)], squares + [[(1, 1), noughts(size)]],
            squares + [(noughts(size), (1, 1))], squares + [()], squares + [noughts(size)], None, "squares", squares[0] if squares else ()]
    for at, (weight, row) in enumerate(squares):
        parts = [(other, row) for other in NO_SHARES + [(0, 1)]] + [(weight, list(row)), (weight, row[:-1]), [weight, row], weight, row]
        parts += [(weight, row, row), (weight,), (row, weight), (weight, row + ((0, 1),)), (weight, None), (None, row), None, (), {}]
        parts += [(weight, row[:place] + (other,) + row[place + 1:]) for place in range(size) for other in NO_SHARES]
        if any(fractions_of(row)):
            parts += [(next_share(weight), row), ((-weight[0], weight[1]), row)]
            near += [squares[:at] + squares[at + 1:], squares + [squares[at]]]
            place = next(place for place in range(size) if row[place] != (0, 1))
            parts.append((weight, row[:place] + (next_share(next_share(next_share(row[place]))),) + row[place + 1:]))
        near += [squares[:at] + [part] + squares[at + 1:] for part in parts]
    return near


class Refusals(Checks):
    def test_no_slants(self):
        for thing in NO_SLANTS:
            for function in (is_even, squares_of, step_squares, steps_weights, is_above, above_paper):
                self.check_refused(NoSlants, function, thing)
            for other in (None, [], ("not", ((1, 1),)), ((1, 1),), "squares", thing):
                for function in (squares_good, above_good):
                    self.check_refused(NoSlants, function, thing, other)
                self.check_refused(NoSlants, pair_at, thing, other, other)

    def test_not_even(self):
        for slants in NOT_EVEN:
            for function in (squares_of, step_squares, steps_weights, is_above, above_paper):
                self.check_refused(NotEven, function, slants)
            size = size_by_length(slants)
            for other in (None, [], ("not", ((1, 1),) * size), "squares"):
                for function in (squares_good, above_good):
                    self.check_refused(NotEven, function, slants, other)
            for row in (((1, 1),) * size, None, (), ((2, 4),) * size):
                self.check_refused(NotEven, pair_at, slants, row, row)

    def test_not_strong(self):
        for slants in EVEN_WEAK:
            for function in (step_squares, steps_weights):
                size = self.check_refused(NotStrong, function, slants).size
                self.assertEqual(size, numbers_by_orders(slants).index(0) + 1)
                self.assertIs(type(size), int)

    def test_not_even_goes_ahead_of_not_strong(self):
        for slants in ((1, 0, 2), (1, 1, 2), (1, 2, 3, 4, 5), (0, 0, 0, 0, 1)):
            for function in (step_squares, steps_weights):
                self.check_refused(NotEven, function, slants)

    def test_no_row(self):
        for slants in EVEN_OF_EACH_SIZE:
            size = size_by_length(slants)
            row = rows_for(size)[0]
            for thing in no_rows(size):
                for one, other in ((thing, row), (row, thing), (thing, thing), (thing, None), (None, thing)):
                    self.check_refused(NoRow, pair_at, slants, one, other)


class IsEven(Checks):
    def test_written_out(self):
        for slants in ((7,), (0,), (1, 2, 1), (0, 0, 0), (1, -2, 3, -2, 1), (-50, 50, 0, 1, 0, 50, -50), (4,) * 9):
            self.assertIs(is_even(slants), True)
        for slants in ((1, 2, 3), (1, 2, -1), (1, 2, 3, 2, 0), (0, 0, 0, 0, 1), (1, 2, 1, 2, 3, 2, 1), (1,) + (0,) * 8):
            self.assertIs(is_even(slants), False)

    def test_of_many(self):
        for slants in MANY_SLANTS + EVEN:
            table = table_by_places(slants)
            self.assertIs(is_even(slants), table == [list(column) for column in zip(*table)])


class PairAt(Checks):
    def test_written_out(self):
        self.assertEqual(pair_at((3,), ((1, 2),), ((5, 1),)), (15, 2))
        # By the table 2 1, 1 2: the second row comes to 4 and 5, the products to 4 and 10.
        self.assertEqual(pair_at((1, 2, 1), ((1, 1), (2, 1)), ((1, 1), (2, 1))), (14, 1))
        self.assertEqual(pair_at((1, 2, 1), ((1, 1), (-1, 1)), ((1, 1), (1, 1))), (0, 1))
        self.assertEqual(pair_at((1, 0, 1), ((1, 1), (0, 1)), ((0, 1), (1, 3))), (1, 3))

    def test_of_many(self):
        for slants in EVEN[::3]:
            rows = rows_for(size_by_length(slants))
            for one, other in zip(rows, rows[3:] + rows[:3]):
                told = pair_at(slants, one, other)
                self.assertEqual(told, row_of_fractions([pair_by_places(slants, one, other)])[0])
                self.assertEqual(pair_at(slants, other, one), told)


class SquaresGood(Checks):
    def test_written_out(self):
        self.assertIs(squares_good((3,), [((3, 1), ((1, 1),))]), True)
        self.assertIs(squares_good((3,), [((1, 3), ((3, 1),))]), True)
        self.assertIs(squares_good((3,), [((1, 1), ((1, 1),)), ((2, 1), ((-1, 1),))]), True)
        self.assertIs(squares_good((3,), [((3, 1), ((3, 1),))]), False)
        self.assertIs(squares_good((1, 2, 1), [((2, 1), ((1, 1), (1, 2))), ((3, 2), ((0, 1), (1, 1)))]), True)
        self.assertIs(squares_good((1, 2, 1), [((2, 1), ((1, 1), (1, 2))), ((3, 2), ((1, 1), (0, 1)))]), False)
        self.assertIs(squares_good((0,), []), True)
        self.assertIs(squares_good((1,), []), False)

    def test_squares_of_a_few_rows(self):
        for size in range(1, 6):
            for slants, squares in number_squares(size):
                for other, others in number_squares(size):
                    self.assertIs(squares_good(slants, others), slants == other, (slants, others))

    def test_ten_tuples_and_more(self):
        for size in range(1, 6):
            for slants, squares in number_squares(size):
                more = [((7, 3), noughts(size))] * (10 - len(squares))
                self.assertIs(squares_good(slants, squares + more), True)
                for one_more in (((1, 1), noughts(size)), ((-1, 1), noughts(size))):
                    self.assertIs(squares_good(slants, squares + more + [one_more]), False)
            slants = (size,) * (2 * size - 1)
            one = ((1, 1),) * size
            for many in range(1, 14):
                share = row_of_fractions([Fraction(size, many)])[0]
                self.assertIs(squares_good(slants, [(share, one)] * many), many <= 10)

    def test_what_comes_near(self):
        for slants in EVEN_OF_EACH_SIZE:
            self.check_none_good(squares_good, slants, squares_near(squares_of(slants), size_by_length(slants)))

    def test_one_number_otherwise(self):
        for slants in EVEN_OF_EACH_SIZE:
            size = size_by_length(slants)
            squares = squares_of(slants)
            for far in range(size):
                other = list(slants)
                for place in {size - 1 - far, size - 1 + far}:
                    other[place] += 1
                self.assertIs(squares_good(tuple(other), squares), False)

    def test_truths(self):
        self.assertIs(squares_good((1,), [((1, 1), ((1, 1),))]), True)
        for share in ((True, 1), (1, True), [1, 1]):
            self.assertIs(squares_good((1,), [(share, ((1, 1),))]), False)
            self.assertIs(squares_good((1,), [((1, 1), (share,))]), False)
        self.assertIs(squares_good((0,), [((1, 1), ((False, 1),))]), False)

    def test_other_things(self):
        for slants in EVEN_OF_EACH_SIZE:
            size = size_by_length(slants)
            self.check_none_good(squares_good, slants, rows_for(size) + [[row] for row in rows_for(size)])
            for thing in OTHER_THINGS + NO_SHARES:
                good = repr(thing) == "[]" and not any(slants)
                self.assertIs(squares_good(slants, thing), good)
                self.assertIs(squares_good(slants, [thing]), False)
                self.assertIs(squares_good(slants, [((1, 1), thing)]), False)
                self.assertIs(squares_good(slants, [(thing, ((1, 1),) * size)]), False)


class SquaresOf(Checks):
    def check_squares(self, slants, squares):
        """Test by reckoning otherwise that these are squares."""
        self.assertIs(type(squares), list)
        for part in squares:
            self.assertIs(type(part), tuple)
            weight, row = part
            self.assertIs(row_good((0,), (weight,)), True)
            self.assertNotEqual(weight[0], 0)
            self.assertIs(row_good(slants, row), True)
        self.assertEqual(table_by_squares(squares, size_by_length(slants)), table_by_places(slants))

    def test_are_squares_as_few_as_can_be(self):
        for slants in EVEN:
            squares = squares_of(slants)
            self.check_squares(slants, squares)
            self.assertEqual(len(squares), columns_rank(table_by_places(slants)))
            self.assertIs(squares_good(slants, squares), True)

    def test_none_of_noughts(self):
        for size in range(1, 6):
            self.assertEqual(squares_of((0,) * (2 * size - 1)), [])

    def test_step_squares(self):
        for slants in EVEN_STRONG:
            size = size_by_length(slants)
            squares = step_squares(slants)
            self.check_squares(slants, squares)
            self.assertEqual(len(squares), size)
            for place, (weight, row) in enumerate(squares):
                self.assertEqual(row[:place], noughts(place))
                self.assertEqual(row[place], (1, 1))
            self.assertIs(squares_good(slants, squares), True)

    def test_step_squares_written_out(self):
        self.assertEqual(step_squares((7,)), [((7, 1), ((1, 1),))])
        self.assertEqual(step_squares((1, 2, 1)), [((2, 1), ((1, 1), (1, 2))), ((3, 2), ((0, 1), (1, 1)))])
        self.assertEqual(step_squares((2, 1, 2)), [((1, 1), ((1, 1), (2, 1))), ((-3, 1), ((0, 1), (1, 1)))])

    def test_steps_weights(self):
        self.assertEqual(steps_weights((-4,)), [(-4, 1)])
        self.assertEqual(steps_weights((1, 2, 1)), [(2, 1), (3, 2)])
        for slants in EVEN_STRONG:
            numbers = [1] + numbers_by_orders(slants)
            shares = [Fraction(right, left) for left, right in zip(numbers, numbers[1:])]
            told = steps_weights(slants)
            self.assertIs(type(told), list)
            self.assertEqual(told, list(row_of_fractions(shares)))
            self.assertEqual(told, [weight for weight, row in step_squares(slants)])

    def test_are_the_askers_own(self):
        for slants in EVEN_STRONG:
            for function in (squares_of, step_squares, steps_weights):
                self.check_own_list(function, slants)


class Above(Checks):
    def test_written_out(self):
        for slants in ((1,), (50,), (1, 2, 1), (-1, 2, -1), (0, -1, 2, -1, 0), (0, 0, 0, 1, 0, 0, 0), (1, 2, 3, 4, 5, 4, 3, 2, 1)):
            self.assertIs(is_above(slants), True)
        for slants in ((0,), (-1,), (1, 1, 1), (2, 1, 2), (1, 0, 1), (0, -2, 0), (1, 1, 1, 1, 1), (2, 0, 1, 0, 2), (5,) * 9):
            self.assertIs(is_above(slants), False)

    def test_of_many(self):
        for slants in ABOVE:
            self.assertIs(is_above(slants), True)
        for slants in NOT_ABOVE:
            self.assertIs(is_above(slants), False)

    def test_papers(self):
        for slants in ABOVE:
            paper = above_paper(slants)
            self.assertIs(type(paper), tuple)
            word, squares = paper
            self.assertEqual(word, "above")
            self.assertEqual(table_by_squares(squares, size_by_length(slants)), table_by_places(slants))
            self.assertEqual(len(squares), size_by_length(slants))
            self.assertTrue(all(weight[0] > 0 for weight, row in squares))
            self.assertEqual(columns_rank([fractions_of(row) for weight, row in squares]), len(squares))
            self.assertIs(above_good(slants, paper), True)
        for slants in NOT_ABOVE:
            paper = above_paper(slants)
            self.assertIs(type(paper), tuple)
            word, row = paper
            self.assertEqual(word, "not")
            self.assertIs(row_good(slants, row), True)
            self.assertTrue(any(fractions_of(row)))
            self.assertLessEqual(pair_by_places(slants, row, row), 0)
            self.assertIs(above_good(slants, paper), True)

    def test_papers_are_the_askers_own(self):
        for slants in ABOVE:
            self.check_own_list(lambda handed: above_paper(handed)[1], slants)


class AboveGood(Checks):
    def test_written_out(self):
        self.assertIs(above_good((2,), ("above", [((2, 1), ((1, 1),))])), True)
        self.assertIs(above_good((2,), ("above", [((1, 2), ((-2, 1),))])), True)
        self.assertIs(above_good((2,), ("above", [((1, 1), ((1, 1),)), ((1, 1), ((1, 1),))])), False)
        self.assertIs(above_good((0,), ("not", ((5, 3),))), True)
        self.assertIs(above_good((0,), ("not", ((0, 1),))), False)
        self.assertIs(above_good((2, 1, 2), ("not", ((1, 1), (-1, 1)))), True)
        self.assertIs(above_good((2, 1, 2), ("not", ((1, 1), (1, 1)))), False)
        self.assertIs(above_good((3, 3, 3), ("not", ((1, 1), (-1, 1)))), True)

    def test_each_of_the_squares_in_whatever_order(self):
        for slants in ABOVE:
            for squares in (squares_of(slants), step_squares(slants), [(weight, row[::-1]) for weight, row in squares_of(slants)]):
                self.assertIs(above_good(slants, ("above", squares)), True)
                self.assertIs(above_good(slants, ("above", squares[::-1])), True)
                longer = [(weight, row) for weight, row in squares[1:]] + [((1, 1), noughts(len(squares)))]
                self.assertIs(above_good(slants, ("above", longer)), False)

    def test_not_by_each_row(self):
        for slants in EVEN:
            size = size_by_length(slants)
            rows = rows_for(size)[::3] + free_rows(slants) + [row for weight, row in unit_squares(size)]
            for row in rows:
                self.assertIs(above_good(slants, ("not", row)), pair_by_places(slants, row, row) <= 0)
            self.assertIs(above_good(slants, ("not", noughts(size))), False)

    def test_rows_that_are_sums_of_others(self):
        # Each is squares with no weight below 0, as many as the size, but the slants are not full.
        one = ((1, 1), (1, 1))
        self.assertIs(squares_good((3, 3, 3), [((1, 1), one), ((2, 1), one)]), True)
        self.assertIs(above_good((3, 3, 3), ("above", [((1, 1), one), ((2, 1), one)])), False)
        for size in range(1, 6):
            squares = [((1, 1), ((2, 1),) * size)] * (size - 1) + [((3, 1), noughts(size))]
            slants = (4 * (size - 1),) * (2 * size - 1)
            self.assertIs(squares_good(slants, squares), True)
            self.assertIs(above_good(slants, ("above", squares)), False)
            none = [((1, 1), noughts(size))] * size
            self.assertIs(squares_good((0,) * (2 * size - 1), none), True)
            self.assertIs(above_good((0,) * (2 * size - 1), ("above", none)), False)
            self.assertIs(above_good((0,) * (2 * size - 1), ("above", [])), False)

    def test_more_or_fewer_squares_than_the_size(self):
        for slants in ABOVE:
            squares = squares_of(slants)
            weight, row = squares[0]
            half = (row_of_fractions([Fraction(*weight) / 2])[0], row)
            for more in ([half, half] + squares[1:], squares + [((1, 1), noughts(len(squares)))]):
                self.assertIs(squares_good(slants, more), True)
                self.assertIs(above_good(slants, ("above", more)), False)
            self.assertIs(above_good(slants, ("above", squares[1:])), False)

    def test_weights_below_nought(self):
        for slants in NOT_ABOVE:
            squares = squares_of(slants)
            self.assertIs(above_good(slants, ("above", squares)), False)
        one, other = ((1, 1), (0, 1)), ((0, 1), (1, 1))
        self.assertIs(squares_good((0, -1, 0), [((-1, 1), one), ((-1, 1), other)]), True)
        self.assertIs(above_good((0, -1, 0), ("above", [((-1, 1), one), ((-1, 1), other)])), False)
        self.assertIs(above_good((0, 1, 0), ("above", [((1, 1), one), ((1, 1), other)])), True)

    def test_what_comes_near(self):
        for slants in EVEN_OF_EACH_SIZE:
            size = size_by_length(slants)
            word, shown = above_paper(slants)
            things = [[word, shown], (word,), (word, shown, shown), (word, shown, None), (shown, word), {word: shown}, (shown,), shown,
                      ("not" if word == "above" else "above", shown), (word, None), (word, []), (word, ()), (word, noughts(size)),
                      (word, str(shown)), (word, [shown]), (word, (shown,)), (word, {})]
            things += [(other, shown) for other in NO_WORDS]
            if word == "above":
                things += [(word, other) for other in squares_near(shown, size)]
            else:
                things += [(word, list(shown)), (word, shown[:-1]), (word, shown + ((0, 1),))]
                things += [(word, row) for row in rows_near(shown) if not row_good(slants, row)]
            self.check_none_good(above_good, slants, things)

    def test_other_things(self):
        for slants in EVEN_OF_EACH_SIZE:
            size = size_by_length(slants)
            for thing in OTHER_THINGS + NO_SHARES + no_rows(size)[::5]:
                self.assertIs(above_good(slants, thing), False)
                self.assertIs(above_good(slants, ("above", thing)), False)
                self.assertIs(above_good(slants, ("not", thing)), False)

    def test_truths(self):
        self.assertIs(above_good((1,), ("above", [((1, 1), ((1, 1),))])), True)
        self.assertIs(above_good((1,), ("above", [((True, 1), ((1, 1),))])), False)
        self.assertIs(above_good((-1,), ("not", ((1, 1),))), True)
        self.assertIs(above_good((-1,), ("not", ((1, True),))), False)


class WhatFollows(Checks):
    def test_pairs_the_other_way_about(self):
        for slants in EVEN:
            rows = rows_for(size_by_length(slants))
            self.assertEqual(pair_at(slants, rows[0], rows[5]), pair_at(slants, rows[5], rows[0]))

    def test_a_row_with_itself_is_the_sum_of_the_squares(self):
        for slants in EVEN:
            for squares in [squares_of(slants)] + ([step_squares(slants)] if slants in EVEN_STRONG else []):
                for row in rows_for(size_by_length(slants))[::6]:
                    total = Fraction(0)
                    for weight, other in squares:
                        together = sum(a * b for a, b in zip(fractions_of(row), fractions_of(other)))
                        total += Fraction(*weight) * together * together
                    self.assertEqual(pair_at(slants, row, row), row_of_fractions([total])[0])

    def test_above_just_where_each_corner_number_is(self):
        for slants in EVEN:
            self.assertIs(is_above(slants), all(number > 0 for number in numbers_by_orders(slants)))
            self.assertIs(is_above(slants), all(number > 0 for number in corner_numbers(slants)))

    def test_squares_have_at_least_as_many_tuples_as_the_rank(self):
        for slants in EVEN:
            squares = squares_of(slants)
            self.assertEqual(len(squares), rank_of(slants))
            for at in range(len(squares)):
                self.assertIs(squares_good(slants, squares[:at] + squares[at + 1:]), False)
            for other in range(len(squares)):
                self.assertIs(squares_good(slants, unit_squares(size_by_length(slants))[:other]), False)

    def test_corners_of_slants_above_are_above(self):
        for slants in ABOVE:
            for size in range(1, size_by_length(slants) + 1):
                self.assertIs(is_above(corner(slants, size)), True)

    def test_papers_are_of_one_kind_alone(self):
        for slants in ABOVE:
            size = size_by_length(slants)
            for row in rows_for(size) + [row for weight, row in squares_of(slants)]:
                self.assertIs(above_good(slants, ("not", row)), False)
        for slants in NOT_ABOVE:
            size = size_by_length(slants)
            for squares in (squares_of(slants), unit_squares(size), [((1, 1), row) for row in rows_for(size)[:size]]):
                self.assertIs(above_good(slants, ("above", squares)), False)

    def test_the_same_question_has_the_same_answer(self):
        kept = [(squares_of(slants), above_paper(slants), is_above(slants)) for slants in EVEN[::4]]
        again = [(squares_of(slants), above_paper(slants), is_above(slants)) for slants in reversed(EVEN[::4])]
        self.assertEqual(kept, again[::-1])


if __name__ == "__main__":
    unittest.main()
