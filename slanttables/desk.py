"""A desk that keeps slants, changes them by deeds and answers questions about them.

Each deed and each question is a function of the slants that stand and of the
numbers that were told with its word. A deed tells the slants that stand behind
it, a question its answer.
"""

from slanttables.backs import back_of
from slanttables.corners import corner_numbers, number_of, weak_sizes
from slanttables.errors import NoLine, NoNumber
from slanttables.foretold import least_length
from slanttables.fullness import is_full, rank_of
from slanttables.shares import is_within
from slanttables.signs import signs_of
from slanttables.slants import GREATEST_SIZE, LEAST, MOST, corner, need_slants, size_of, turned_slants
from slanttables.solving import solved
from slanttables.squares import is_even, steps_weights
from slanttables.texts import number_read, row_shown, slants_shown

FIRST_SLANTS = (0,)

# So many numbers stand behind each word; None is one or more.
NUMBERS_DUE = {
    "size": 1, "row": None, "set": 2, "turn": 0, "times": 1, "cut": 1, "back": 0,
    "slants": 0, "number": 0, "corners": 0, "weak": 0, "full": 0, "even": 0, "rank": 0,
    "inverse": 1, "solve": None, "weights": 0, "signs": 0, "length": 0, "shown": 0,
}


def new_size(slants, numbers):
    size = numbers[0]
    if not is_within(size, 1, GREATEST_SIZE):
        raise NoNumber()
    return (0,) * (2 * size - 1)


def new_row(slants, numbers):
    need_slants(numbers)
    return numbers


def one_set(slants, numbers):
    place, number = numbers
    if not is_within(place, 0, len(slants) - 1) or not is_within(number, LEAST, MOST):
        raise NoNumber()
    return slants[:place] + (number,) + slants[place + 1:]


def all_turned(slants, numbers):
    return turned_slants(slants)


def all_times(slants, numbers):
    product = tuple([number * numbers[0] for number in slants])
    need_slants(product)
    return product


def cut_to(slants, numbers):
    return corner(slants, numbers[0])


DEEDS = {
    "size": new_size, "row": new_row, "set": one_set, "turn": all_turned, "times": all_times, "cut": cut_to,
}


def things_shown(things):
    """Tell an answer of numbers, perhaps of none."""
    return " ".join([str(thing) for thing in things]) if len(things) > 0 else "none"


def truth_shown(truth):
    """Tell the answer to whether something is so."""
    return "yes" if truth else "no"


def ask_slants(slants, numbers):
    return things_shown(slants)


def ask_number(slants, numbers):
    return str(number_of(slants))


def ask_corners(slants, numbers):
    return things_shown(corner_numbers(slants))


def ask_weak(slants, numbers):
    return things_shown(weak_sizes(slants))


def ask_full(slants, numbers):
    return truth_shown(is_full(slants))


def ask_even(slants, numbers):
    return truth_shown(is_even(slants))


def ask_rank(slants, numbers):
    return str(rank_of(slants))


def ask_inverse(slants, numbers):
    table = back_of(slants)
    if not is_within(numbers[0], 0, size_of(slants) - 1):
        raise NoNumber()
    return row_shown(table[numbers[0]])


def ask_solve(slants, numbers):
    return row_shown(solved(slants, numbers))


def ask_weights(slants, numbers):
    return row_shown(tuple(steps_weights(slants)))


def ask_signs(slants, numbers):
    return things_shown(signs_of(slants))


def ask_length(slants, numbers):
    return str(least_length(slants))


def ask_shown(slants, numbers):
    return slants_shown(slants).replace("\n", " ; ")


QUESTIONS = {
    "slants": ask_slants, "number": ask_number, "corners": ask_corners, "weak": ask_weak, "full": ask_full,
    "even": ask_even, "rank": ask_rank, "inverse": ask_inverse, "solve": ask_solve, "weights": ask_weights,
    "signs": ask_signs, "length": ask_length, "shown": ask_shown,
}


def line_of(row):
    """Tell the tuple (word, numbers) of a row; refuse with NoLine what is none of the rows that a desk knows."""
    if not isinstance(row, str):
        raise NoLine()
    # Where two blanks stand together, or one at an end, a word without signs comes of it, which writes nothing.
    word, *others = row.split(" ")
    numbers = tuple([number_read(other) for other in others])
    if word not in NUMBERS_DUE or None in numbers:
        raise NoLine()
    due = NUMBERS_DUE[word]
    if (due is None and len(numbers) == 0) or (due is not None and len(numbers) != due):
        raise NoLine()
    return (word, numbers)


class Desk:
    """A desk: it is told rows, one at a time, and answers each, or refuses it."""

    def __init__(self):
        # Behind the first slants stand those that each deed that stands has led to.
        self.standing = [FIRST_SLANTS]

    def say(self, row):
        """Answer a row with a text, or refuse it."""
        word, numbers = line_of(row)
        if word == "back":
            self.undo()
            return "ok"
        slants = self.standing[-1]
        if word in DEEDS:
            deed = DEEDS[word]
            self.standing.append(deed(slants, numbers))
            return "ok"
        question = QUESTIONS[word]
        return question(slants, numbers)

    def undo(self):
        """Undo the last deed that stands."""
        if len(self.standing) == 1:
            raise NoLine()
        self.standing.pop()
