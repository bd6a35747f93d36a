"""The signs of even slants, and papers that show them."""

from slanttables.clearing import are_independent
from slanttables.corners import corner_numbers
from slanttables.errors import NoRow
from slanttables.shares import NOUGHT
from slanttables.slants import row_good, size_of
from slanttables.solving import need_strong
from slanttables.squares import apart_rows, need_even, pair_at


def form_at(slants, row):
    """Tell what the products of a row with what times_row makes of it come to together."""
    return pair_at(slants, row, row)


def are_apart(slants, rows):
    """Tell whether any two of these rows are apart."""
    return all([
        pair_at(slants, row, other) == NOUGHT for at, row in enumerate(rows) for other in rows[at + 1:]
    ])


def sign_paper_good(slants, thing):
    """Tell whether a thing is a sign paper of even slants."""
    need_even(slants)
    size = size_of(slants)
    if not isinstance(thing, list) or len(thing) != size:
        return False
    if not all([row_good(slants, row) for row in thing]):
        return False
    return are_independent(thing, size) and are_apart(slants, thing)


def signs_by(slants, paper):
    """Tell the signs (above, below, none) that a sign paper shows."""
    if not sign_paper_good(slants, paper):
        raise NoRow()
    tops = [form_at(slants, row)[0] for row in paper]
    above = len([top for top in tops if top > 0])
    below = len([top for top in tops if top < 0])
    return (above, below, len(tops) - above - below)


def sign_paper(slants):
    """Tell a sign paper of even slants."""
    return apart_rows(slants)


def signs_of(slants):
    """Tell the signs (above, below, none) of even slants."""
    return signs_by(slants, sign_paper(slants))


def corner_signs(slants):
    """Tell, of strong even slants, the list of 1 where a corner number has the sign of the one ahead, and -1 else."""
    need_even(slants)
    need_strong(slants)
    numbers = [1] + corner_numbers(slants)
    return [1 if left * right > 0 else -1 for left, right in zip(numbers, numbers[1:])]
