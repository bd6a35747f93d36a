"""Rows foretold [8.1], [8.2], [8.3], [8.4]."""

import itertools
import unittest
from fractions import Fraction

from slanttables.errors import NoNumber, NoRow
from slanttables.foretold import follows, gone_on, is_only, least_length, least_rule, lengths_of, missed_by
from slanttables.shares import is_row
from slanttables.slants import times_row
from tests.checks import Checks
from tests.reference import columns_rank, fractions_of, lengths_by_turns, row_of_fractions
from tests.things import NO_SHARES, OTHER_THINGS, rows_near

SOME_NUMBERS = [
    (1,), (0,), (-50,), (0, 0), (0, 7), (7, 0), (1, 2, 4, 8), (1, 1, 2, 3, 5, 8, 13, 21, 34), (1, 1, 2, 3, 5, 8, 13, 21, 34, 50),
    (1, 2, 3, 4, 5, 6, 7, 8, 9, 10), (1, 4, 9, 16, 25, 36, 49), (0, 0, 0, 0, 0, 0, 0, 0, 0, 1), (1, 0, 0, 0, 0, 0, 0, 0, 0, 0),
    (0,) * 10, (50,) * 10, (-50,) * 10, (1, 0, 1, 0, 1, 0, 1, 0, 1, 0), (1, 0, 0, 1, 0, 0, 1, 0, 0, 1), (3, 1, 4, 1, 5, 9, 2, 6, 5, 3),
    (2, -7, 1, -8, 2, -8, 1, -8, 2, 8), (48, 24, 12, 6, 3), (0, 1, 1, 2, 4, 7, 13, 24, 44), (0, 0, 0, 1, 2, 3), (16, 8, 4, 2, 1, 1),
    (0, 0, 5, 0, 0, 5, 0, 0, 5, 1), (50, -50, 50, -50, 50, -50, 50, -50, 50, 50), (1, 2), (1, 2, 3), (0, 0, 0, 0, 1), (0, 2, 0, 0, 0, 0),
]

MANY_NUMBERS = SOME_NUMBERS + [
    numbers for many in range(1, 7) for numbers in itertools.islice(itertools.product((-1, 0, 2), repeat=many), 0, None, max(1, many - 3))
] + [tuple((seed * k * k + 7 * k + 3 * seed * seed) % 101 - 50 for k in range(many)) for seed in range(1, 9) for many in range(7, 11)]

NO_NUMBERS = OTHER_THINGS + [
    (51,), (-51,), (0, 51), (51, 0), (1,) * 11, (0,) * 12, [1], [1, 2, 3], (1, True), (False, 1), (1, None), (1, "2"), (1, (2,)), (1, [2]),
    ((1, 1),), ((1, 1), (2, 1)), "123", {0: 1}, ((1, 2, 3),), [(1, 2, 3)], (10 ** 39,), (1, 2, 3, 4, 5, 6, 7, 8, 9, -51),
]

# Numbers with a rule that they follow.
RULED = [
    ((0, 0, 0), ()), ((1, 1, 2, 3, 5, 8), ((1, 1), (1, 1))), ((48, 24, 12, 6, 3), ((1, 2),)), ((1, 2, 3, 4, 5), ((2, 1), (-1, 1))),
    ((1, 0, 0, 0), ((0, 1),)), ((5, -5, 5, -5), ((-1, 1),)), ((1, 4, 9, 16, 25, 36, 49), ((3, 1), (-3, 1), (1, 1))), ((0,), ()),
    ((7,), ((22, 7),)), ((0, 0, 3, 0, 0, 3), ((0, 1), (0, 1), (1, 1))), ((1, 2, 3), ((1, 2), (1, 3), (1, 4))), ((0, 0), ((5, 1), (7, 3))),
]


def next_number(before, rule):
    """Tell the fraction that goes on behind fractions by a rule."""
    return sum((share * before[len(before) - 1 - at] for at, share in enumerate(fractions_of(rule))), Fraction(0))


def missed_places(numbers, rule):
    before = [Fraction(number) for number in numbers]
    return [place for place in range(len(rule), len(numbers)) if next_number(before[:place], rule) != before[place]]


def seen_and_due(numbers, length):
    """Tell the rows of what a rule of this length sees ahead of each number, and the list of the numbers due."""
    places = range(length, len(numbers))
    return [[numbers[place - 1 - at] for at in range(length)] for place in places], [numbers[place] for place in places]


def rules_there(numbers, length):
    """Tell how many rules of this length the numbers follow: 0, 1, or 2 for more than one."""
    seen, due = seen_and_due(numbers, length)
    rank = columns_rank(seen)
    if columns_rank([row + [number] for row, number in zip(seen, due)]) > rank:
        return 0
    return 1 if rank == length else 2


def no_rules(numbers):
    """Tell things that are no rule of these numbers, whether they follow it or not."""
    many = len(numbers)
    row = ((1, 2),) * many
    things = [thing for thing in OTHER_THINGS + NO_SHARES if thing != ()]
    things += [row + ((0, 1),), ((0, 1),) * (many + 1), ((0, 1),) * 11, list(row), [list(share) for share in row], (row,), str(row)]
    things += [tuple(list(share) for share in row), {at: share for at, share in enumerate(row)}, (0,) * many, (1,), (True,) * many]
    for length in range(1, many + 1):
        things += [row[:length - 1] + (thing,) for thing in NO_SHARES] + [(thing,) + row[:length - 1] for thing in NO_SHARES]
    return things


class Refusals(Checks):
    def test_no_numbers(self):
        for thing in NO_NUMBERS:
            for function in (least_length, least_rule, is_only, lengths_of):
                self.check_refused(NoRow, function, thing)
            for rule in ((), ((1, 1),), None, [], thing):
                for function in (follows, missed_by):
                    self.check_refused(NoRow, function, thing, rule)
                for many in (0, 8, -1, 9, None, True):
                    self.check_refused(NoRow, gone_on, thing, rule, many)

    def test_no_rule(self):
        for numbers in ((1,), (0,), (1, 2), (0, 0, 0), (1, 2, 3, 4), (0,) * 10, (1, 1, 2, 3, 5, 8, 13, 21, 34, 50)):
            for thing in no_rules(numbers):
                self.check_refused(NoRow, missed_by, numbers, thing)
                for many in (0, 3, -1, None):
                    self.check_refused(NoRow, gone_on, numbers, thing, many)

    def test_a_rule_that_they_do_not_follow(self):
        for numbers, rule in (((1,), ()), ((1, 2, 4), ((3, 1),)), ((1, 1, 2, 3, 6), ((1, 1), (1, 1))), ((0, 0, 1), ((1, 1), (1, 1)))):
            for many in (0, 1, 8, 9, -1, None, "1", True):
                self.check_refused(NoRow, gone_on, numbers, rule, many)

    def test_no_number(self):
        for numbers, rule in RULED:
            for many in [9, -1, 10, 100, 10 ** 39, True, False, None, "1", "", [], [1], (), (1,), {}, (1, 1)]:
                self.check_refused(NoNumber, gone_on, numbers, rule, many)


class Follows(Checks):
    def test_written_out(self):
        for numbers, rule in RULED:
            self.assertIs(follows(numbers, rule), True, (numbers, rule))
            self.assertEqual(missed_by(numbers, rule), [])
        self.assertIs(follows((1, 2, 4), ((2, 1),)), True)
        self.assertIs(follows((1, 2, 4), ((1, 2),)), False)
        self.assertIs(follows((1, 3, 4, 7), ((1, 1), (1, 1))), True)
        self.assertIs(follows((1, 3, 7), ((2, 1), (1, 1))), True)
        self.assertIs(follows((1, 3, 7), ((1, 1), (2, 1))), False)
        self.assertEqual(missed_by((1, 3, 7, 17, 40), ((2, 1), (1, 1))), [4])
        self.assertEqual(missed_by((1, 2, 3), ((2, 1),)), [2])
        self.assertEqual(missed_by((0, 5, 0, 5), ()), [1, 3])
        self.assertEqual(missed_by((5, 5), ()), [0, 1])
        self.assertEqual(missed_by((5, 5), ((1, 3), (1, 3))), [])

    def test_by_reckoning_otherwise(self):
        rules = [(), ((1, 1),), ((-1, 2),), ((0, 1),), ((1, 1), (1, 1)), ((2, 1), (-1, 1)), ((0, 1), (0, 1), (1, 1)), ((1, 3),) * 4,
                 ((0, 1),) * 6, ((10 ** 29 + 1, 10 ** 29), (1, 10 ** 29))]
        for numbers in MANY_NUMBERS[::3]:
            for rule in rules:
                if len(rule) <= len(numbers):
                    told = missed_by(numbers, rule)
                    self.assertIs(type(told), list)
                    self.assertEqual(told, missed_places(numbers, rule))
                    self.assertIs(follows(numbers, rule), told == [])
                else:
                    self.assertIs(follows(numbers, rule), False)
                    self.check_refused(NoRow, missed_by, numbers, rule)

    def test_a_rule_as_long_as_the_numbers_are_many(self):
        for numbers in MANY_NUMBERS[::7]:
            many = len(numbers)
            for rule in (((0, 1),) * many, ((22, 7),) * many):
                self.assertIs(follows(numbers, rule), True)
                self.assertEqual(missed_by(numbers, rule), [])
                self.assertIs(follows(numbers, rule + ((0, 1),)), False)

    def test_what_comes_near(self):
        for numbers, rule in RULED:
            self.check_none_good(follows, numbers, no_rules(numbers))
            near = [list(rule), (rule,), [rule], str(rule)] + [row for row in rows_near(rule) if not is_row(row, len(rule))]
            self.check_none_good(follows, numbers, near)

    def test_one_share_otherwise(self):
        for numbers, rule in RULED:
            for near in rows_near(rule):
                if is_row(near, len(rule)):
                    self.assertIs(follows(numbers, near), missed_places(numbers, near) == [])
        for near in rows_near(((1, 1), (1, 1))):
            self.assertIs(follows((1, 1, 2, 3, 5, 8), near), False)

    def test_one_share_more_or_fewer(self):
        fibs = (1, 1, 2, 3, 5, 8, 13)
        for rule in (((1, 1),), ((1, 1), (1, 1), (1, 1)), (), ((0, 1), (1, 1), (1, 1))):
            self.assertIs(follows(fibs, rule), False)
        # Behind the last share a nought changes nothing but how many numbers come ahead.
        self.assertIs(follows(fibs, ((1, 1), (1, 1), (0, 1))), True)

    def test_truths(self):
        self.assertIs(follows((1, 1, 1), ((1, 1),)), True)
        for share in ((True, 1), (1, True), [1, 1], (2, 2), (-1, -1), 1, True):
            self.assertIs(follows((1, 1, 1), (share,)), False)

    def test_missed_places_are_the_askers_own(self):
        self.check_own_list(missed_by, (1, 3, 7, 17, 40), ((2, 1), (1, 1)))


class LeastRules(Checks):
    def test_written_out(self):
        for numbers, length in [
            ((0,), 0), ((5,), 1), ((0, 0, 0), 0), ((0, 0, 5), 3), ((5, 0, 0), 1), ((1, 2, 4, 8), 1), ((1, 2, 4, 9), 3), ((1, 2, 3, 4), 2),
            ((1, 1, 2, 3, 5, 8), 2), ((1, 4, 9, 16, 25, 36), 3), ((0,) * 9 + (1,), 10), ((1, 2), 1), ((0, 1), 2), ((1, 1, 2), 2),
        ]:
            self.assertEqual(least_length(numbers), length, numbers)
        self.assertEqual(least_rule((0, 0)), ())
        self.assertEqual(least_rule((1, 2, 4, 8)), ((2, 1),))
        self.assertEqual(least_rule((48, 24, 12)), ((1, 2),))
        self.assertEqual(least_rule((1, 1, 2, 3, 5, 8)), ((1, 1), (1, 1)))
        self.assertEqual(lengths_of((1, 1, 2, 3, 5, 8)), [1, 1, 2, 2, 2, 2])
        self.assertEqual(lengths_of((0, 0, 5, 0)), [0, 0, 3, 3])
        self.assertIs(is_only((1, 2)), True)
        self.assertIs(is_only((1,)), False)
        self.assertIs(is_only((0,)), True)
        self.assertIs(is_only((1, 1, 2)), False)
        self.assertIs(is_only((1, 1, 2, 3)), True)

    def test_rules_are_followed_and_least(self):
        for numbers in MANY_NUMBERS:
            length = least_length(numbers)
            rule = least_rule(numbers)
            self.assertIs(type(length), int)
            self.assertIs(is_row(rule, length), True)
            self.assertEqual(missed_places(numbers, rule), [])
            self.assertIs(follows(numbers, rule), True)
            self.assertEqual(length, lengths_by_turns(numbers)[-1])
            self.assertGreater(rules_there(numbers, length), 0)
            self.assertEqual([rules_there(numbers, less) for less in range(length)], [0] * length)

    def test_is_only(self):
        for numbers in MANY_NUMBERS:
            self.assertIs(is_only(numbers), rules_there(numbers, least_length(numbers)) == 1)

    def test_lengths(self):
        for numbers in MANY_NUMBERS:
            told = lengths_of(numbers)
            self.assertIs(type(told), list)
            self.assertEqual(told, lengths_by_turns(numbers))

    def test_lengths_are_the_askers_own(self):
        for numbers in SOME_NUMBERS:
            self.check_own_list(lengths_of, numbers)


class GoneOn(Checks):
    def test_written_out(self):
        self.assertEqual(gone_on((1, 1, 2, 3), ((1, 1), (1, 1)), 4), ((5, 1), (8, 1), (13, 1), (21, 1)))
        self.assertEqual(gone_on((48, 24, 12), ((1, 2),), 5), ((6, 1), (3, 1), (3, 2), (3, 4), (3, 8)))
        self.assertEqual(gone_on((0, 0), (), 3), ((0, 1), (0, 1), (0, 1)))
        self.assertEqual(gone_on((1, 2, 3), ((1, 2), (1, 3), (1, 4)), 1), ((29, 12),))
        self.assertEqual(gone_on((7,), ((22, 7),), 2), ((22, 1), (484, 7)))

    def test_none_at_all(self):
        for numbers, rule in RULED:
            self.assertEqual(gone_on(numbers, rule, 0), ())

    def test_each_out_of_those_ahead(self):
        for numbers, rule in RULED + [(numbers, least_rule(numbers)) for numbers in MANY_NUMBERS[::5]]:
            before = [Fraction(number) for number in numbers]
            for many in range(9):
                told = gone_on(numbers, rule, many)
                self.assertEqual(told, row_of_fractions(before[len(numbers):]))
                before.append(next_number(before, rule))


class WhatFollows(Checks):
    def test_just_one_where_twice_the_length_is_at_most_how_many(self):
        for numbers in MANY_NUMBERS:
            self.assertIs(is_only(numbers), 2 * least_length(numbers) <= len(numbers))

    def test_no_shares_just_where_all_are_nought(self):
        for numbers in MANY_NUMBERS:
            self.assertIs(follows(numbers, ()), not any(numbers))
            self.assertIs(least_length(numbers) == 0, not any(numbers))

    def test_lengths_never_fall(self):
        for numbers in MANY_NUMBERS:
            lengths = lengths_of(numbers)
            self.assertEqual(lengths, sorted(lengths))
            self.assertEqual(lengths[-1], least_length(numbers))

    def test_where_lengths_rise(self):
        for numbers in MANY_NUMBERS:
            lengths = [0] + lengths_of(numbers)
            for place in range(1, len(lengths)):
                if lengths[place] > lengths[place - 1]:
                    self.assertEqual(lengths[place] + lengths[place - 1], place)

    def test_times_row_of_the_rule_from_behind(self):
        seen = set()
        for numbers in MANY_NUMBERS + [((many,) + (0,) * 9)[:2 * many] for many in range(1, 6)]:
            half = len(numbers) // 2
            if len(numbers) % 2 or not rules_there(numbers, half):
                continue
            rule = least_rule(numbers)
            rule += ((0, 1),) * (half - len(rule))
            self.assertIs(follows(numbers, rule), True)
            right = tuple((number, 1) for number in numbers[:half - 1:-1])
            self.assertEqual(times_row(numbers[:-1], rule[::-1]), right)
            seen.add(half)
        self.assertEqual(seen, {1, 2, 3, 4, 5})

    def test_the_same_question_has_the_same_answer(self):
        kept = [(least_rule(numbers), lengths_of(numbers), is_only(numbers)) for numbers in SOME_NUMBERS]
        again = [(least_rule(numbers), lengths_of(numbers), is_only(numbers)) for numbers in reversed(SOME_NUMBERS)]
        self.assertEqual(kept, again[::-1])


if __name__ == "__main__":
    unittest.main()
