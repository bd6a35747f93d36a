"""The desk [10.3], [10.4], [10.5]."""

import unittest
from fractions import Fraction

from slanttables.desk import Desk
from slanttables.errors import NoLine, NoNumber, NoRow, NoSlants, NotEven, NotFull, NotStrong
from tests.checks import Checks
from tests.reference import (
    columns_rank, free_places, kind_by_orders, lengths_by_turns, numbers_by_orders, ones_by_orders, signs_by_changes, size_by_length,
    table_by_places,
)
from tests.test_texts import NO_NUMBER_WORDS
from tests.things import EVEN, EVEN_STRONG, EVEN_WEAK, FULL, MANY_SLANTS, NOT_EVEN, NOT_FULL, OTHER_THINGS, STRONG

WORDS_ALONE = [
    "turn", "back", "slants", "number", "corners", "weak", "full", "even", "rank", "weights", "signs", "length", "shown",
]
WORDS_WITH_ONE = ["size", "times", "cut", "inverse"]
WORDS_WITH_SOME = ["row", "solve"]
ALL_WORDS = WORDS_ALONE + WORDS_WITH_ONE + WORDS_WITH_SOME + ["set"]

# Rows that are none of those that a desk knows.
NO_ROWS = ["", " ", "\n", "  ", "0", "ok", "help", "none", "desk", "slant 0", "Turn", "TURN", "turned", "tur", "size=1", "row,1", "undo", "~"]
NO_ROWS += [word + " 1" for word in WORDS_ALONE] + [word + " turn" for word in WORDS_ALONE]
NO_ROWS += WORDS_WITH_ONE + [word + " 1 1" for word in WORDS_WITH_ONE] + WORDS_WITH_SOME
NO_ROWS += ["set", "set 0", "set 0 1 2", "set 0 1 2 3", "1 set 0", "0 size"]
NO_ROWS += [f"{word} {other}" for word in WORDS_WITH_ONE + WORDS_WITH_SOME for other in NO_NUMBER_WORDS]
NO_ROWS += [f"{word} 1 {other}" for word in WORDS_WITH_SOME + ["set"] for other in NO_NUMBER_WORDS]
NO_ROWS += [f"{word} {other} 1" for word in WORDS_WITH_SOME + ["set"] for other in NO_NUMBER_WORDS]
NO_ROWS += [f"row 1 2 {other} 4 5" for other in NO_NUMBER_WORDS]
NO_ROWS += [sign + word for sign in (" ", "\n", "-", "+", "\t") for word in WORDS_ALONE]
NO_ROWS += [word + sign for sign in (" ", "\n", "\n\n", ".", "\t", " \n") for word in WORDS_ALONE]
NO_ROWS += ["turn\nturn", "size\n1", "size 1\n", "\nsize 1", "size 1\nturn", "row 1\n2", "row 1 2\n3", "set 0\n1", "set\n0 1", "row  1", "row 1  2",
            "size  1", "row 1 2 ", "slants\nslants", "size 1 ", " size 1", "size -0", "size 01", "times +1", "cut 1.0", "x" * 2000, "row 1;2"]

NO_TEXTS = [thing for thing in OTHER_THINGS if not isinstance(thing, str)] + [["turn"], ("turn",), {"turn": 1}, ["row", 1], ("size", 1)]


def told(*rows):
    """Tell a new desk that was told these rows."""
    desk = Desk()
    for row in rows:
        desk.say(row)
    return desk


def words_of(numbers):
    return " ".join(str(number) for number in numbers)


def shares_shown(shares):
    return " ".join(str(Fraction(*share)) for share in shares)


def row_for(slants):
    return "row " + words_of(slants)


class DeskChecks(Checks):
    def check_stays(self, error, row, *before):
        """Check that a row is refused, that all stands behind it as before, and that the deeds ahead may be undone still."""
        desk = told(*before)
        slants, shown = desk.say("slants"), desk.say("shown")
        refusal = self.check_refused(error, desk.say, row)
        self.assertEqual((desk.say("slants"), desk.say("shown")), (slants, shown))
        deeds = [line for line in before if line.split(" ")[0] in ("size", "row", "set", "turn", "times", "cut")]
        undone = before.count("back")
        for many in range(len(deeds) - undone):
            self.assertEqual(desk.say("back"), "ok")
        self.check_refused(NoLine, desk.say, "back")
        self.assertEqual(desk.say("slants"), "0")
        return refusal

    def answers(self, slants, question):
        return told(row_for(slants)).say(question)


class Lines(DeskChecks):
    def test_rows_that_it_does_not_know(self):
        for row in NO_ROWS:
            self.check_stays(NoLine, row)
            self.check_stays(NoLine, row, "row 1 2 3", "turn")

    def test_what_is_no_text(self):
        for thing in NO_TEXTS:
            self.check_stays(NoLine, thing)
            self.check_stays(NoLine, thing, "size 3", "set 2 7")

    def test_no_line_goes_ahead_of_all_else(self):
        # Each of these would be refused otherwise if its words were as they should be.
        for row in ("size 6 1", "size 06", "row 51 x", "row 51 -0", "row 1 2 03", "set 9 9 9", "set -1 01", "set 99 -0", "times 100 1", "cut 9 9",
                    "cut 09", "inverse 9 9", "inverse 00", "solve", "solve 1001 x", "weights 1", "signs 0"):
            for before in ((), ("row 1 1 2",), ("row 1 0 2",), ("size 5",)):
                self.check_stays(NoLine, row, *before)

    def test_each_word_is_known(self):
        desk = told("row 1 2 1")
        for word in ALL_WORDS:
            many = 0 if word in WORDS_ALONE else 2 if word in ("set", "solve") else 1
            answer = desk.say(" ".join([word] + ["1"] * many))
            self.assertIs(type(answer), str)
            desk = told("row 1 2 1")

    def test_numbers_of_twenty_figures(self):
        long = "9" * 20
        self.check_stays(NoNumber, f"size {long}")
        self.check_stays(NoNumber, f"size -{long}")
        self.check_stays(NoSlants, f"row {long}")
        self.check_stays(NoNumber, f"set {long} 0")
        self.check_stays(NoNumber, f"set 0 -{long}")
        self.check_stays(NoSlants, f"times {long}", "row 1")
        self.check_stays(NoNumber, f"cut {long}")
        self.check_stays(NoNumber, f"inverse {long}", "row 1")
        self.check_stays(NoRow, f"solve {long}", "row 1")
        self.assertEqual(told(f"times -{long}").say("slants"), "0")
        for row in (f"size {long}9", f"row {long}9", f"set 0 {long}9", f"times {long}9", f"solve {long}9", f"cut -{long}9"):
            self.check_stays(NoLine, row, "row 1")


class Deeds(DeskChecks):
    def test_at_first(self):
        desk = Desk()
        self.assertEqual(desk.say("slants"), "0")
        self.assertEqual(desk.say("shown"), "size 1 ; slant 0")
        self.check_refused(NoLine, desk.say, "back")

    def test_each_is_answered_ok(self):
        for row in ("size 3", "row 7", "row 1 2 3", "set 0 5", "turn", "times 3", "cut 1"):
            self.assertEqual(Desk().say(row), "ok")
        self.assertEqual(told("turn").say("back"), "ok")

    def test_size(self):
        for size in range(1, 6):
            self.assertEqual(told("row 1 2 3", f"size {size}").say("slants"), words_of([0] * (2 * size - 1)))
        for size in (0, 6, -1, 7, 10, -5, 51):
            self.check_stays(NoNumber, f"size {size}", "row 1 2 3")

    def test_row(self):
        for slants in MANY_SLANTS:
            self.assertEqual(self.answers(slants, "slants"), words_of(slants))
        for row in ("row 1 2", "row 51", "row -51", "row 1 2 51", "row 1 2 3 4", "row" + " 0" * 11, "row" + " 1" * 10, "row 0 0 0 0 -51",
                    "row 100 1", "row" + " 0" * 900):
            self.check_stays(NoSlants, row, "row 1 2 3")

    def test_set(self):
        desk = told("size 2", "set 0 5", "set 2 -50", "set 1 50")
        self.assertEqual(desk.say("slants"), "5 50 -50")
        for place in range(9):
            numbers = [0] * 9
            numbers[place] = -7
            self.assertEqual(told("size 5", f"set {place} -7").say("slants"), words_of(numbers))
        for row in ("set 3 0", "set -1 0", "set 0 51", "set 0 -51", "set 3 51", "set 5 0", "set -3 0", "set 2 100"):
            self.check_stays(NoNumber, row, "size 2", "set 0 5")

    def test_turn(self):
        for slants in MANY_SLANTS[::4]:
            self.assertEqual(told(row_for(slants), "turn").say("slants"), words_of(slants[::-1]))

    def test_times(self):
        self.assertEqual(told("row 1 -2 3", "times -3").say("slants"), "-3 6 -9")
        self.assertEqual(told("row 1 -2 3", "times 0").say("slants"), "0 0 0")
        self.assertEqual(told("row 1 -2 25", "times 2").say("slants"), "2 -4 50")
        self.assertEqual(told("row 1 -2 25", "times -2").say("slants"), "-2 4 -50")
        self.assertEqual(told("size 2", "times 1000000").say("slants"), "0 0 0")
        for row in ("times 3", "times -3", "times 100", "times 51"):
            self.check_stays(NoSlants, row, "row 1 -2 25")

    def test_cut(self):
        desk = told("row 1 2 3 4 5 6 7 8 9")
        for size, numbers in ((5, "1 2 3 4 5 6 7 8 9"), (4, "2 3 4 5 6 7 8"), (3, "3 4 5 6 7"), (2, "4 5 6"), (1, "5")):
            self.assertEqual(desk.say(f"cut {size}"), "ok")
            self.assertEqual(desk.say("slants"), numbers)
        for size in (0, -1, 3, 4, 5, 6):
            self.check_stays(NoNumber, f"cut {size}", "row 1 2 3")


class Back(DeskChecks):
    def test_behind_each_kind_of_deed(self):
        for deed in ("size 3", "row 7", "row 1 2 3", "set 0 5", "set 0 1", "turn", "times 3", "times 1", "times 0", "cut 1", "cut 2"):
            desk = told("row 1 2 3", deed)
            self.assertEqual(desk.say("back"), "ok")
            self.assertEqual(desk.say("slants"), "1 2 3")
            self.assertEqual(desk.say("back"), "ok")
            self.assertEqual(desk.say("slants"), "0")
            self.check_refused(NoLine, desk.say, "back")

    def test_where_none_stands(self):
        self.check_stays(NoLine, "back")
        self.check_stays(NoLine, "back", "turn", "back")
        self.check_stays(NoLine, "back", "row 1 2 3", "turn", "back", "back")

    def test_back_is_no_deed_that_is_undone(self):
        desk = told("row 1", "row 2", "row 3", "back")
        self.assertEqual(desk.say("slants"), "2")
        desk.say("back")
        self.assertEqual(desk.say("slants"), "1")
        desk.say("row 4")
        desk.say("back")
        self.assertEqual(desk.say("slants"), "1")

    def test_questions_and_refused_rows_are_not_undone(self):
        desk = told("row 1", "row 2")
        for question in ("slants", "number", "weak", "shown", "rank", "solve 1"):
            desk.say(question)
        for error, row in ((NoSlants, "row 51"), (NoNumber, "size 6"), (NoNumber, "set 1 1"), (NoSlants, "times 26"), (NoNumber, "cut 2"),
                           (NoLine, "x"), (NoNumber, "inverse 1"), (NoRow, "solve 1 2")):
            self.check_refused(error, desk.say, row)
        desk.say("back")
        self.assertEqual(desk.say("slants"), "1")

    def test_many_deeds(self):
        desk = Desk()
        for number in range(200):
            desk.say(f"row {number - 150 if number > 100 else number - 50}")
        for number in range(198, -1, -1):
            desk.say("back")
            self.assertEqual(desk.say("slants"), str(number - 150 if number > 100 else number - 50))
        desk.say("back")
        self.check_refused(NoLine, desk.say, "back")


class Questions(DeskChecks):
    def test_written_out(self):
        desk = told("row 1 2 3")
        for question, answer in (
            ("slants", "1 2 3"), ("number", "1"), ("corners", "2 1"), ("weak", "none"), ("full", "yes"), ("even", "no"), ("rank", "2"),
            ("inverse 0", "2 -3"), ("inverse 1", "-1 2"), ("solve 5 6", "-8 7"), ("length", "2"),
            ("shown", "size 2 ; slant 1 ; slant 2 ; slant 3"),
        ):
            self.assertEqual(desk.say(question), answer)
        desk = told("row 3 2 3")
        for question, answer in (
            ("even", "yes"), ("weights", "2 -5/2"), ("signs", "1 1 0"), ("inverse 0", "-2/5 3/5"), ("solve 1000 -1000", "-1000 1000"),
        ):
            self.assertEqual(desk.say(question), answer)
        desk = told("row 0 0 0 0 0")
        for question, answer in (
            ("number", "0"), ("corners", "0 0 0"), ("weak", "1 2 3"), ("full", "no"), ("even", "yes"), ("rank", "0"), ("signs", "0 0 3"),
            ("length", "0"), ("slants", "0 0 0 0 0"),
        ):
            self.assertEqual(desk.say(question), answer)

    def test_of_many(self):
        for slants in MANY_SLANTS + EVEN[::3]:
            desk = told(row_for(slants))
            numbers = numbers_by_orders(slants)
            weak = [size for size, number in enumerate(numbers, start=1) if number == 0]
            self.assertEqual(desk.say("slants"), words_of(slants))
            self.assertEqual(desk.say("number"), str(numbers[-1]))
            self.assertEqual(desk.say("corners"), words_of(numbers))
            self.assertEqual(desk.say("weak"), words_of(weak) or "none")
            self.assertEqual(desk.say("full"), "yes" if numbers[-1] else "no")
            self.assertEqual(desk.say("even"), "yes" if slants == slants[::-1] else "no")
            self.assertEqual(desk.say("rank"), str(columns_rank(table_by_places(slants))))
            self.assertEqual(desk.say("rank"), str(size_by_length(slants) - len(free_places(slants))))
            self.assertEqual(desk.say("length"), str(lengths_by_turns(slants)[-1]))
            rows = [f"size {size_by_length(slants)}"] + [f"slant {number}" for number in slants]
            self.assertEqual(desk.say("shown"), " ; ".join(rows))

    def test_inverse(self):
        for slants in FULL:
            desk = told(row_for(slants))
            for place, row in enumerate(zip(*ones_by_orders(slants))):
                self.assertEqual(desk.say(f"inverse {place}"), shares_shown(row))
            size = size_by_length(slants)
            for place in (size, size + 1, -1, -size, 99):
                self.check_refused(NoNumber, desk.say, f"inverse {place}")
        self.check_stays(NoNumber, "inverse 2", "row 1 2 3")

    def test_inverse_not_full(self):
        for slants in NOT_FULL:
            desk = told(row_for(slants))
            for place in (0, -1, 9, 5):
                self.check_refused(NotFull, desk.say, f"inverse {place}")
        self.check_stays(NotFull, "inverse 0")
        self.check_stays(NotFull, "inverse 9", "row 1 1 1", "turn")

    def test_solve(self):
        for slants in STRONG:
            desk = told(row_for(slants))
            size = size_by_length(slants)
            ones = ones_by_orders(slants)
            for right in ((1000, -1000, 0, 7, -3)[:size], (1,) * size, (0,) * size):
                shares = [sum(Fraction(*row[at]) * number for row, number in zip(ones, right)) for at in range(size)]
                self.assertEqual(desk.say("solve " + words_of(right)), " ".join(map(str, shares)))
            for wrong in ((1001,) * size, (1,) * (size - 1) + (-1001,), (1,) * (size + 1), (1,) * (size + 7), (1,) * max(1, size - 1)):
                if wrong != (1,) * size:
                    self.check_refused(NoRow, desk.say, "solve " + words_of(wrong))

    def test_solve_not_strong(self):
        for slants in MANY_SLANTS:
            if kind_by_orders(slants) == "strong":
                continue
            desk = told(row_for(slants))
            size = size_by_length(slants)
            for right in ((1,) * size, (1,) * (size + 1), (1001,) * size):
                refusal = self.check_refused(NotStrong, desk.say, "solve " + words_of(right))
                self.assertEqual(refusal.size, numbers_by_orders(slants).index(0) + 1)
        self.assertEqual(self.check_stays(NotStrong, "solve 1").size, 1)
        self.assertEqual(self.check_stays(NotStrong, "solve 1 2 3", "row 1 2 3 4 5").size, 3)

    def test_weights(self):
        for slants in EVEN_STRONG:
            numbers = [1] + numbers_by_orders(slants)
            shares = [Fraction(right, left) for left, right in zip(numbers, numbers[1:])]
            self.assertEqual(self.answers(slants, "weights"), " ".join(map(str, shares)))
        for slants in EVEN_WEAK[::5]:
            refusal = self.check_stays(NotStrong, "weights", row_for(slants))
            self.assertEqual(refusal.size, numbers_by_orders(slants).index(0) + 1)
        for slants in NOT_EVEN[::5]:
            self.check_stays(NotEven, "weights", row_for(slants))

    def test_signs(self):
        for slants in EVEN:
            self.assertEqual(self.answers(slants, "signs"), words_of(signs_by_changes(slants)))
        for slants in NOT_EVEN[::5]:
            self.check_stays(NotEven, "signs", row_for(slants))


class WhatFollows(DeskChecks):
    DEEDS = ["row 1 2 3", "set 0 3", "turn", "times -2", "size 3", "set 2 9", "row 5 -1 3 2 4", "cut 2", "times 10", "cut 1", "turn"]
    ALL = ["slants", "number", "corners", "weak", "full", "even", "rank", "length", "shown", "inverse 0", "solve 1", "weights", "signs"]

    def all_answers(self, desk):
        """Tell what the desk answers to each question, refusals by their class."""
        answers = []
        for question in self.ALL:
            try:
                answers.append(desk.say(question))
            except ValueError as refusal:
                answers.append(type(refusal).__name__)
        return answers

    def test_answers_hang_on_the_deeds_that_stand_alone(self):
        busy = Desk()
        standing = []
        for at, deed in enumerate(self.DEEDS):
            busy.say(deed)
            standing.append(deed)
            self.check_refused(NoLine, busy.say, "nothing")
            self.check_refused(NoNumber, busy.say, "size 6")
            busy.say("row 7 7 7")
            self.all_answers(busy)
            busy.say("back")
            if at % 3 == 2:
                busy.say("back")
                standing.pop()
            self.assertEqual(self.all_answers(busy), self.all_answers(told(*standing)))
            self.assertEqual(self.all_answers(busy), self.all_answers(busy))

    def test_undone_is_as_if_it_had_not_been_told(self):
        for many in range(len(self.DEEDS) + 1):
            desk = told(*self.DEEDS)
            for deed in self.DEEDS[many:]:
                desk.say("back")
            self.assertEqual(self.all_answers(desk), self.all_answers(told(*self.DEEDS[:many])))

    def test_two_desks_told_by_turns(self):
        one, other = Desk(), Desk()
        for at, deed in enumerate(self.DEEDS):
            one.say(deed)
            self.assertEqual(self.all_answers(one), self.all_answers(told(*self.DEEDS[:at + 1])))
            self.assertEqual(self.all_answers(other), self.all_answers(told(*["row 4 5 6"] * at)))
            other.say("row 4 5 6")
        for deed in self.DEEDS:
            one.say("back")
        self.check_refused(NoLine, one.say, "back")
        self.assertEqual(other.say("slants"), "4 5 6")
        self.assertEqual(Desk().say("slants"), "0")


if __name__ == "__main__":
    unittest.main()
