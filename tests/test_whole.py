"""What holds over the whole program [0.1], [0.2], [0.4]: the interface, the same answers, nothing changed."""

import copy
import importlib
import inspect
import unittest

from slanttables import errors
from slanttables.backs import back_by, back_good, back_of, share_table, times_table, two_good, two_rows
from slanttables.corners import corner_numbers, part_number, put_number, weak_sizes
from slanttables.desk import Desk
from slanttables.foretold import follows, gone_on, least_rule, lengths_of, missed_by
from slanttables.fullness import free_rows, paper_good, paper_of
from slanttables.kinds import half_back, half_product, half_slants, round_product, round_slants
from slanttables.signs import corner_signs, form_at, sign_paper, sign_paper_good, signs_by, signs_of
from slanttables.slants import corner, slants_of, table_of, times_row, turned_slants
from slanttables.solving import solved, solved_steps, solves, step_next, steps_of
from slanttables.squares import above_good, above_paper, pair_at, squares_good, squares_of, step_squares, steps_weights
from slanttables.texts import row_read, row_shown, slants_read, slants_shown

# Each name of the interface, with how many arguments it takes.
INTERFACE = {
    "slants": {"slants_good": 1, "table_of": 1, "slants_of": 1, "turned_slants": 1, "mirrored_slants": 1, "corner": 2, "times_row": 2,
               "row_good": 2},
    "solving": {"first_weak": 1, "steps_of": 1, "step_next": 2, "solved": 2, "solved_steps": 2, "solves": 3},
    "fullness": {"paper_good": 2, "paper_of": 1, "is_full": 1, "free_rows": 1, "free_many": 1, "rank_of": 1},
    "signs": {"form_at": 2, "signs_of": 1, "sign_paper_good": 2, "signs_by": 2, "sign_paper": 1, "corner_signs": 1},
    "kinds": {"is_round": 1, "is_half": 1, "round_slants": 1, "round_product": 2, "half_slants": 1, "half_product": 2, "half_back": 1},
    "corners": {"number_of": 1, "corner_numbers": 1, "part_number": 3, "put_number": 3, "weak_sizes": 1},
    "backs": {"back_good": 2, "back_of": 1, "two_rows": 1, "two_good": 2, "back_by": 2, "times_table": 2, "share_table": 1},
    "squares": {"is_even": 1, "pair_at": 3, "squares_good": 2, "squares_of": 1, "step_squares": 1, "steps_weights": 1, "is_above": 1,
                "above_good": 2, "above_paper": 1},
    "foretold": {"follows": 2, "missed_by": 2, "least_length": 1, "least_rule": 1, "is_only": 1, "lengths_of": 1, "gone_on": 3},
    "texts": {"slants_shown": 1, "slants_read": 1, "row_shown": 1, "row_read": 1},
    "desk": {"Desk": 0},
}

ROW = ((1, 2), (-2, 3), (5, 1))
RULE = ((1, 1), (1, 1))

# Questions of each kind, some of which are refused.
ASKED = [
    (table_of, (1, 2, 3)), (slants_of, [[2, 3], [1, 2]]), (slants_of, [[1, 2], [3, 4]]), (turned_slants, (1, 2, 3)), (corner, (1, 2, 3), 1),
    (times_row, (1, 2, 3, 4, 5), ROW), (times_row, (1, 2, 3), ROW), (corner_numbers, (1, 2, 3, 4, 5)), (weak_sizes, (1, 2, 3, 4, 5)),
    (part_number, (1, 2, 3), (0,), (1,)), (put_number, (1, 2, 3), 0, (5, 6)), (steps_of, (1, 2, 3)), (steps_of, (1, 0, 3)),
    (step_next, (1, 2, 3), (((1, 2),), ((1, 2),))), (solved, (1, 2, 3), (5, 6)), (solved_steps, (1, 2, 3), (5, 6)),
    (solves, (1, 2, 3), (5, 6), ((-8, 1), (7, 1))), (paper_of, (1, 2, 3)), (paper_of, (4, 4, 4)), (free_rows, (4, 4, 4)),
    (paper_good, (4, 4, 4), ("none", ((1, 1), (-1, 1)))), (paper_good, (1, 2, 3), ("full", [((2, 1), (-1, 1)), ((-3, 1), (2, 1))])),
    (back_of, (1, 2, 3)), (back_of, (4, 4, 4)), (two_rows, (1, 2, 3)), (back_good, (2,), (((1, 2),),)), (share_table, (1, 2, 3)),
    (two_good, (2,), (((1, 2),), ((1, 2),))), (back_by, ROW, ROW), (times_table, (((1, 2),),), (((3, 2),),)), (times_table, [], ()),
    (form_at, (1, 2, 3, 2, 1), ROW), (signs_of, (2, 1, 2)), (signs_of, (1, 2, 3)), (sign_paper, (1, 0, 1)), (corner_signs, (2, 1, 2)),
    (sign_paper_good, (2, 1, 2), [((1, 1), (1, 1)), ((1, 1), (-1, 1))]), (signs_by, (2, 1, 2), [((1, 1), (1, 1)), ((1, 1), (-1, 1))]),
    (pair_at, (1, 2, 3, 2, 1), ROW, ROW), (squares_of, (1, 0, 1)), (squares_good, (3,), [((3, 1), ((1, 1),))]), (step_squares, (1, 2, 1)),
    (steps_weights, (1, 2, 1)), (steps_weights, (1, 1, 1)), (above_paper, (1, 2, 1)), (above_good, (2,), ("above", [((2, 1), ((1, 1),))])),
    (follows, (1, 1, 2, 3), RULE), (missed_by, (1, 1, 2, 4), RULE), (least_rule, (1, 1, 2, 3)), (lengths_of, (1, 1, 2, 3)),
    (gone_on, (1, 1, 2, 3), RULE, 4), (gone_on, (1, 1, 2, 4), RULE, 4), (gone_on, (1, 1, 2, 3), RULE, 9), (round_slants, (1, 2, 3)),
    (round_product, (1, 2), (3, 4)), (half_slants, (1, 2)), (half_product, (1, 2), (3, 4)), (half_back, (2, 1)), (half_back, (0, 1)),
    (slants_shown, (1, 2, 3)), (slants_read, "size 1\nslant 7"), (slants_read, "size 1\nslant 51"), (row_shown, ROW), (row_read, "1/2 -2/3 5"),
    (row_read, "1/2 -2/3 5/1"), (Desk().say, "slants"), (Desk().say, "row 1 2"),
]


def answer(question):
    """Tell what comes of a question: the answer, or the refusal with its fields."""
    function, *handed = question
    try:
        return function(*handed)
    except errors.SlantError as refusal:
        return (type(refusal), vars(refusal))


def spoil(thing):
    """Change all lists in a thing, as deep as they are."""
    if isinstance(thing, (list, tuple)):
        for part in thing:
            spoil(part)
    if isinstance(thing, list):
        thing.append(None)
        thing.reverse()


class Whole(unittest.TestCase):
    def test_each_name_is_there_with_its_arguments(self):
        for module, names in INTERFACE.items():
            for name, many in names.items():
                with self.subTest((module, name)):
                    thing = getattr(importlib.import_module("slanttables." + module), name)
                    self.assertEqual(thing.__module__, "slanttables." + module)
                    self.assertEqual(len(inspect.signature(thing).parameters), many)
        self.assertEqual(len(inspect.signature(Desk().say).parameters), 1)

    def test_some_questions_are_answered_and_some_refused(self):
        refused = {question[0].__name__ for question in ASKED if str(answer(question)).startswith("(<class")}
        self.assertEqual(refused, {
            "slants_of", "times_row", "steps_of", "back_of", "times_table", "signs_of", "steps_weights", "gone_on", "half_back", "slants_read",
            "row_read", "say"})

    def test_the_same_question_has_the_same_answer_whatever_was_asked_in_between(self):
        kept = [copy.deepcopy(answer(question)) for question in ASKED]
        for shift in (1, 7, 30):
            order = ASKED[shift:] + ASKED[:shift]
            self.assertEqual([answer(question) for question in order], kept[shift:] + kept[:shift])
        self.assertEqual([answer(question) for question in reversed(ASKED)], kept[::-1])

    def test_what_was_handed_in_stays(self):
        for question in ASKED:
            kept = copy.deepcopy(question[1:])
            answer(question)
            self.assertEqual(repr(question[1:]), repr(kept))

    def test_changing_what_was_told_changes_no_later_answer(self):
        for question in ASKED:
            kept = copy.deepcopy(answer(question))
            spoil(answer(question))
            self.assertEqual(answer(question), kept, question)

    def test_changing_what_was_handed_in_changes_no_later_answer(self):
        for question in ASKED:
            handed = copy.deepcopy(question[1:])
            told = answer((question[0],) + handed)
            kept = copy.deepcopy(told)
            spoil(handed)
            self.assertEqual(repr(told), repr(kept), question)
            self.assertEqual(answer(question), kept)

    def test_what_was_told_may_be_handed_in_again(self):
        self.assertEqual(slants_of(table_of((1, 2, 3))), (1, 2, 3))
        self.assertIs(back_good((1, 2, 3), back_of((1, 2, 3))), True)
        self.assertEqual(back_by(*two_rows((1, 2, 3))), back_of((1, 2, 3)))
        self.assertEqual(times_row((1, 2, 3), times_row((1, 2, 3), ((1, 2), (1, 3)))), ((15, 2), (13, 3)))
        self.assertIs(squares_good((1, 2, 1), squares_of((1, 2, 1))), True)
        self.assertIs(above_good((1, 2, 1), above_paper((1, 2, 1))), True)
        self.assertEqual(signs_by((1, 2, 1), sign_paper((1, 2, 1))), (2, 0, 0))
        self.assertIs(follows((1, 1, 2, 3), least_rule((1, 1, 2, 3))), True)
        self.assertIs(paper_good((4, 4, 4), paper_of((4, 4, 4))), True)
        self.assertEqual(step_next((1, 2, 3), steps_of((1, 2, 3))[0]), steps_of((1, 2, 3))[1])
        self.assertEqual(row_read(row_shown(ROW)), ROW)


if __name__ == "__main__":
    unittest.main()
