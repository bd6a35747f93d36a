"""Papers that slants are full, or not, and free rows [5.1], [5.2], [5.3], [5.4]."""

import copy
import itertools
import unittest

from slanttables.errors import NoSlants
from slanttables.fullness import free_many, free_rows, is_full, paper_good, paper_of, rank_of
from slanttables.slants import mirrored_slants, row_good, turned_slants
from tests.checks import Checks
from tests.reference import (
    columns_rank, fractions_of, free_places, one_alone, ones_by_orders, row_of_fractions, size_by_length, table_by_places,
    times_fractions,
)
from tests.things import (
    FULL, FULL_NOT_STRONG, FULL_OF_EACH_SIZE, MANY_SLANTS, NO_SHARES, NO_SLANTS, NOT_FULL, NOT_FULL_OF_EACH_SIZE, OTHER_THINGS,
    STRONG, no_rows, noughts, rows_for, rows_near,
)

NO_WORDS = ["", "Full", "full ", "none ", "None", "FULL", "papers", None, True, False, 0, 1, ["full"], ("full",), {}, [], ()]


def nought_rows(slants):
    """Tell rows by which the table makes noughts, cleared from the last column on: others than the free rows."""
    other = free_rows(mirrored_slants(slants))
    return [row[::-1] for row in other]


def taken(row, share):
    """Tell the row with each share times this one."""
    return row_of_fractions([number * fractions_of([share])[0] for number in fractions_of(row)])


class NoSlantsGoes(Checks):
    def test_of_each_function(self):
        for thing in NO_SLANTS:
            for function in (paper_of, is_full, free_rows, free_many, rank_of):
                with self.subTest((function.__name__, repr(thing)[:60])):
                    with self.assertRaises(NoSlants):
                        function(thing)
            for paper in (("none", ((1, 1),)), ("full", [((1, 1),)]), None, (), "paper", []):
                with self.assertRaises(NoSlants):
                    paper_good(thing, paper)


class FullPapers(Checks):
    def test_written_out(self):
        self.assertIs(paper_good((2,), ("full", ((1, 2),), ((1, 2),))), True)
        self.assertIs(paper_good((2,), ("full", [((1, 2),)])), True)
        first, last = ((2, 1), (-1, 1)), ((-3, 1), (2, 1))
        self.assertIs(paper_good((1, 2, 3), ("full", first, last)), True)
        self.assertIs(paper_good((1, 2, 3), ("full", [first, last])), True)
        self.assertIs(paper_good((1, 2, 3), ("full", last, first)), False)
        self.assertIs(paper_good((1, 2, 3), ("full", [last, first])), False)

    def test_two_rows_are_one_where_the_first_share_is_not_nought(self):
        seen = set()
        for slants in FULL:
            rows = ones_by_orders(slants)
            good = rows[0][0] != (0, 1)
            seen.add((size_by_length(slants), good))
            self.assertIs(paper_good(slants, ("full", rows[0], rows[-1])), good, slants)
        self.assertEqual(seen, set(itertools.product(range(1, 6), (False, True))) - {(1, False)})

    def test_first_share_nought_written_out(self):
        first, last = ((0, 1), (1, 5)), ((1, 3), (0, 1))
        self.assertIs(paper_good((3, 0, 5), ("full", first, last)), False)
        self.assertIs(paper_good((3, 0, 5), ("full", [first, last])), True)

    def test_a_row_for_each_place(self):
        for slants in FULL:
            self.assertIs(paper_good(slants, ("full", ones_by_orders(slants))), True, slants)

    def other_papers(self, slants):
        """Tell things that are no papers of these full slants."""
        rows = ones_by_orders(slants)
        first, last = rows[0], rows[-1]
        things = [
            ["full", rows], ["full", first, last], ("full",), ("full", rows, rows), ("full", first, last, last), (rows,),
            ("full", tuple(rows)), ("full", (first, last)), ("full", {at: row for at, row in enumerate(rows)}),
            ("full", list(first), last), ("full", first, list(last)), ("full", first, None), ("full", None, last),
            ("full", [list(row) for row in rows]), ("full", rows[:-1]), ("full", rows + [last]), ("full", [rows]), ("full", []),
            ("full", ()), ("full", None), ("full", str(rows)), ("full", rows, None), ("full", first), ("none", rows),
            ("none", first), ("none", first, last), (first, last), (first, last, "full"), (rows, "full"), {"full": rows},
            ("full", first + ((0, 1),), last), ("full", first, last[1:]), ("full", (), ()), ("full", first, ()), (None, first, last),
        ]
        things += [(word, rows) for word in NO_WORDS] + [(word, first, last) for word in NO_WORDS]
        for at, row in enumerate(rows):
            things += [("full", rows[:at] + [changed] + rows[at + 1:]) for changed in rows_near(row)]
        things += [("full", changed, last) for changed in rows_near(first)]
        things += [("full", first, changed) for changed in rows_near(last)]
        if first != last:
            things += [("full", last, first), ("full", first, first), ("full", last, last), ("full", rows[::-1])]
        return things

    def test_other_things(self):
        for slants in FULL_OF_EACH_SIZE:
            self.check_none_good(paper_good, slants, self.other_papers(slants))

    def test_truths_are_no_numbers_in_it(self):
        self.assertIs(paper_good((1,), ("full", ((1, 1),), ((1, 1),))), True)
        self.assertIs(paper_good((1,), ("full", [((1, 1),)])), True)
        for share in ((True, 1), (1, True), (True, True), [1, 1]):
            self.assertIs(paper_good((1,), ("full", (share,), ((1, 1),))), False)
            self.assertIs(paper_good((1,), ("full", ((1, 1),), (share,))), False)
            self.assertIs(paper_good((1,), ("full", [(share,)])), False)


class NonePapers(Checks):
    def test_written_out(self):
        self.assertIs(paper_good((0,), ("none", ((22, 7),))), True)
        self.assertIs(paper_good((0,), ("none", ((0, 1),))), False)
        self.assertIs(paper_good((4, 4, 4), ("none", ((1, 3), (-1, 3)))), True)
        self.assertIs(paper_good((4, 4, 4), ("none", ((1, 3), (1, 3)))), False)
        self.assertIs(paper_good((4, 4, 4), ("none", ((0, 1), (0, 1)))), False)
        self.assertIs(paper_good((1, 2, 3, 4, 5), ("none", ((1, 2), (-1, 1), (1, 2)))), True)

    def test_each_row_that_makes_noughts_but_that_of_noughts(self):
        for slants in NOT_FULL:
            for row in nought_rows(slants):
                for share in ((1, 1), (-3, 7), (10 ** 29 + 1, 10 ** 29)):
                    self.assertIs(paper_good(slants, ("none", taken(row, share))), True)
                self.assertIs(paper_good(slants, ("none", taken(row, (0, 1)))), False)

    def test_other_things(self):
        for slants in NOT_FULL_OF_EACH_SIZE:
            size = size_by_length(slants)
            row = free_rows(slants)[0]
            things = [
                ["none", row], ("none",), ("none", row, row), ("none", list(row)), ("none", [row]), ("none", (row,)), (row,),
                ("none", None), ("none", noughts(size)), ("none", row + ((0, 1),)), ("none", row[:-1]), ("none", str(row)),
                ("full", row), ("full", [row]), ("full", row, row), ("full", [row] * size), {"none": row}, (row, "none"), row,
                ("none", row, None), ("none", ()), ("none", []), ("none", {}),
            ]
            things += [(word, row) for word in NO_WORDS] + [("none", thing) for thing in no_rows(size)]
            for place in range(size):
                things += [("none", row[:place] + (other,) + row[place + 1:]) for other in NO_SHARES]
            self.check_none_good(paper_good, slants, things)

    def test_truths_are_no_numbers_in_it(self):
        for share in ((True, 1), (1, True), (False, 1), [1, 1]):
            self.assertIs(paper_good((0,), ("none", (share,))), False)
            self.assertIs(paper_good((0, 0, 0), ("none", (share, (1, 1)))), False)
            self.assertIs(paper_good((0, 0, 0), ("none", ((1, 1), share))), False)


class AnyPapers(Checks):
    def test_things_of_whatever_kind(self):
        for slants in FULL_OF_EACH_SIZE + NOT_FULL_OF_EACH_SIZE:
            for thing in OTHER_THINGS + NO_SHARES + rows_for(size_by_length(slants)):
                self.assertIs(paper_good(slants, thing), False)
                for word in ("full", "none"):
                    if word == "none" and isinstance(thing, tuple) and row_good(slants, thing):
                        continue
                    self.assertIs(paper_good(slants, (word, thing)), False)
                    self.assertIs(paper_good(slants, (word, thing, thing)), False)


class PaperOf(Checks):
    def test_is_a_paper(self):
        for slants in MANY_SLANTS:
            paper = paper_of(slants)
            self.assertIs(paper_good(slants, paper), True, slants)
            self.assertIs(type(paper), tuple)

    def test_says_what_is_so(self):
        for slants in FULL:
            self.assertEqual(paper_of(slants)[0], "full", slants)
        for slants in NOT_FULL:
            self.assertEqual(paper_of(slants)[0], "none", slants)

    def test_shows_it_by_reckoning_otherwise(self):
        for slants in NOT_FULL:
            row = paper_of(slants)[1]
            self.assertEqual(times_fractions(slants, row), [0] * size_by_length(slants))
            self.assertTrue(any(fractions_of(row)))
        for slants in FULL:
            size = size_by_length(slants)
            rows = paper_of(slants)[1:] if len(paper_of(slants)) == 3 else paper_of(slants)[1]
            places = (0, size - 1) if len(paper_of(slants)) == 3 else range(size)
            for place, row in zip(places, rows, strict=True):
                self.assertEqual(times_fractions(slants, row), one_alone(place, size))

    def test_is_the_askers_own(self):
        for slants in FULL_OF_EACH_SIZE + NOT_FULL_OF_EACH_SIZE:
            kept = copy.deepcopy(paper_of(slants))
            for part in paper_of(slants):
                if isinstance(part, list):
                    part.append(None)
                    part[0] = None
            self.assertEqual(paper_of(slants), kept)


class IsFull(Checks):
    def test_written_out(self):
        for slants in FULL_OF_EACH_SIZE:
            self.assertIs(is_full(slants), True)
        for slants in NOT_FULL_OF_EACH_SIZE:
            self.assertIs(is_full(slants), False)

    def test_of_each_kind(self):
        for slants in FULL:
            self.assertIs(is_full(slants), True)
        for slants in NOT_FULL:
            self.assertIs(is_full(slants), False)


class FreeRows(Checks):
    def test_written_out(self):
        one, nought = (1, 1), (0, 1)
        self.assertEqual(free_rows((7,)), [])
        self.assertEqual(free_rows((0,)), [(one,)])
        self.assertEqual(free_rows((4, 4, 4)), [((-1, 1), one)])
        self.assertEqual(free_rows((0, 0, 5)), [(one, nought)])
        self.assertEqual(free_rows((5, 0, 0)), [(nought, one)])
        self.assertEqual(free_rows((1, 2, 3, 4, 5)), [(one, (-2, 1), one)])
        self.assertEqual(free_rows((0, 0, 0, 1, 2)), [(one, nought, nought)])
        self.assertEqual(free_rows((0, 0, 0, 0, 3)), [(one, nought, nought), (nought, one, nought)])
        self.assertEqual(free_rows((0, 0, 0)), [(one, nought), (nought, one)])
        self.assertEqual(free_rows((1, 2, 4, 8, 16)), [((-2, 1), one, nought), ((-4, 1), nought, one)])
        self.assertEqual(free_rows((16, 8, 4, 2, 1)), [((-1, 2), one, nought), ((-1, 4), nought, one)])

    def test_are_those_of_the_free_places(self):
        for slants in MANY_SLANTS:
            size = size_by_length(slants)
            places = free_places(slants)
            told = free_rows(slants)
            self.assertIs(type(told), list)
            self.assertEqual(len(told), len(places), slants)
            for place, row in zip(places, told):
                self.assertIs(row_good(slants, row), True)
                self.assertEqual(times_fractions(slants, row), [0] * size)
                self.assertEqual(row[place], (1, 1))
                self.assertEqual(row[place + 1:], noughts(size - 1 - place))
                self.assertEqual([row[at] for at in places if at != place], [(0, 1)] * (len(places) - 1))

    def test_each_number_of_free_places_of_each_size(self):
        seen = {(size_by_length(slants), free_many(slants)) for slants in MANY_SLANTS}
        self.assertEqual(seen, {(size, many) for size in range(1, 6) for many in range(size + 1)})

    def test_are_the_askers_own(self):
        for slants in NOT_FULL_OF_EACH_SIZE:
            self.check_own_list(free_rows, slants)

    def test_how_many_and_the_rank(self):
        for slants in MANY_SLANTS:
            self.assertEqual(free_many(slants), len(free_places(slants)))
            self.assertEqual(rank_of(slants), columns_rank(zip(*table_by_places(slants))))
            self.assertEqual(rank_of(slants) + free_many(slants), size_by_length(slants))
            self.assertIs(type(free_many(slants)), int)
            self.assertIs(type(rank_of(slants)), int)


class WhatFollows(Checks):
    def test_full_ones_have_no_paper_of_the_third_kind(self):
        for slants in FULL:
            size = size_by_length(slants)
            for row in rows_for(size) + [noughts(size)] + ones_by_orders(slants):
                self.assertIs(paper_good(slants, ("none", row)), False)

    def test_ones_that_are_not_full_have_no_paper_of_the_first_kinds(self):
        for slants in NOT_FULL:
            size = size_by_length(slants)
            rows = rows_for(size)[::3] + [noughts(size)] + free_rows(slants)
            rows += [row_of_fractions(one_alone(place, size)) for place in range(size)]
            for one in rows:
                self.assertIs(paper_good(slants, ("full", [one] * size)), False)
                for other in rows:
                    self.assertIs(paper_good(slants, ("full", one, other)), False)

    def test_both_ends_of_ones_that_are_not_full(self):
        # Here times_row makes 1 at the first place alone, and at the last, though the slants are not full.
        for size in (3, 4, 5):
            slants = (2,) + (0,) * (2 * size - 3) + (3,)
            first, last = noughts(size - 1) + ((1, 3),), ((1, 2),) + noughts(size - 1)
            self.assertEqual(times_fractions(slants, first), one_alone(0, size))
            self.assertEqual(times_fractions(slants, last), one_alone(size - 1, size))
            self.assertIs(paper_good(slants, ("full", first, last)), False)
            self.assertIs(is_full(slants), False)
            for row in free_rows(slants):
                self.assertIs(paper_good(slants, ("none", row)), True)

    def test_there_always_is_one_paper_of_one_kind(self):
        for slants in MANY_SLANTS:
            self.assertIs(paper_good(slants, paper_of(slants)), True)
            self.assertIs(is_full(slants), paper_of(slants)[0] == "full")

    def test_rows_that_make_noughts_are_sums_of_shares_of_free_rows(self):
        for slants in NOT_FULL:
            size = size_by_length(slants)
            places = free_places(slants)
            free = [fractions_of(row) for row in free_rows(slants)]
            found = nought_rows(slants)
            self.assertEqual(len(found), len(free))
            for row in found + [row_of_fractions(map(sum, zip(*map(fractions_of, found))))]:
                self.assertEqual(times_fractions(slants, row), [0] * size)
                total = [sum(fractions_of(row)[place] * part[at] for place, part in zip(places, free)) for at in range(size)]
                self.assertEqual(row_of_fractions(total), row)

    def test_turned_slants_have_as_many(self):
        for slants in STRONG + FULL_NOT_STRONG + NOT_FULL:
            self.assertEqual(free_many(turned_slants(slants)), free_many(slants))
            self.assertEqual(rank_of(turned_slants(slants)), rank_of(slants))

    def test_full_slants_have_none(self):
        for slants in FULL:
            self.assertEqual(free_rows(slants), [])
            self.assertEqual(free_many(slants), 0)
            self.assertEqual(rank_of(slants), size_by_length(slants))
        for slants in NOT_FULL:
            self.assertGreater(free_many(slants), 0)

    def test_the_same_question_has_the_same_answer(self):
        kept = [(paper_of(slants), free_rows(slants)) for slants in MANY_SLANTS]
        again = [(paper_of(slants), free_rows(slants)) for slants in reversed(MANY_SLANTS)]
        self.assertEqual(kept, again[::-1])


if __name__ == "__main__":
    unittest.main()
