"""Even slants, pairs of rows by them, and their tables as sums of squares.

Two rows are apart where pair_at of them is 0. Rows of which any two are apart,
as many as the size and none a sum of shares of the others, make squares: what
times_row makes of each, weighed by its pair with itself.
"""

from slanttables.clearing import are_independent
from slanttables.errors import NoRow, NotEven
from slanttables.shares import (
    NOUGHT, ONE, by, is_row, is_share, minus, one_at, row_by, row_less, sum_of_products, times,
)
from slanttables.slants import row_good, share_rows, size_of, times_row, turned_slants
from slanttables.solving import steps_of

MOST_SQUARES = 10


def is_even(slants):
    """Tell whether slants are the same from behind."""
    return turned_slants(slants) == slants


def need_even(slants):
    """Refuse what is no slants, and then slants that are not even."""
    if not is_even(slants):
        raise NotEven()


def pair_at(slants, one, other):
    """Tell what the products of one row with what times_row makes of another come to together."""
    need_even(slants)
    if not row_good(slants, one):
        raise NoRow()
    return sum_of_products(one, times_row(slants, other))


def is_weighed(thing, many):
    """Tell whether a thing is a tuple (weight, row): a share that is not 0, and a row of this many."""
    if not isinstance(thing, tuple) or len(thing) != 2:
        return False
    return is_share(thing[0]) and thing[0] != NOUGHT and is_row(thing[1], many)


def left_by(slants, squares):
    """Tell the rows of the table with what the squares come to taken off."""
    rows = share_rows(slants)
    for weight, square in squares:
        rows = [row_less(row, times(weight, share), square) for row, share in zip(rows, square)]
    return rows


def squares_good(slants, thing):
    """Tell whether a thing is squares of even slants."""
    need_even(slants)
    size = size_of(slants)
    if not isinstance(thing, list) or len(thing) > MOST_SQUARES:
        return False
    if not all([is_weighed(part, size) for part in thing]):
        return False
    return left_by(slants, thing) == [(NOUGHT,) * size] * size


def lead_among(slants, rows):
    """Tell a tuple (place, row): a row whose pair with itself is not 0, which may stand for the row at this place.

    It is one of the rows, or the sum of two. None where there is none: then any
    two of the rows are apart, for a sum's pair with itself has theirs twice.
    """
    for at, row in enumerate(rows):
        sums = [row_less(row, minus(NOUGHT, ONE), other) for other in rows[at + 1:]]
        for lead in [row] + sums:
            if pair_at(slants, lead, lead) != NOUGHT:
                return (at, lead)
    return None


def apart_from(slants, row, lead):
    """Tell a row less that share of the lead that makes it apart from the lead."""
    return row_less(row, by(pair_at(slants, row, lead), pair_at(slants, lead, lead)), lead)


def apart_rows(slants):
    """Tell a list of as many rows as the size, none a sum of shares of the others, any two apart."""
    need_even(slants)
    size = size_of(slants)
    found = []
    rest = [one_at(place, size) for place in range(size)]
    place_and_lead = lead_among(slants, rest)
    while place_and_lead is not None:
        at, lead = place_and_lead
        found.append(lead)
        rest = [apart_from(slants, row, lead) for row in rest[:at] + rest[at + 1:]]
        place_and_lead = lead_among(slants, rest)
    return found + rest


def squares_of(slants):
    """Tell squares of even slants, of as few tuples as can be."""
    squares = []
    for row in apart_rows(slants):
        weight = pair_at(slants, row, row)
        if weight != NOUGHT:
            squares.append((weight, row_by(times_row(slants, row), weight)))
    return squares


def step_squares(slants):
    """Tell, of strong even slants, the squares whose row at each place is 1 there and 0 ahead."""
    need_even(slants)
    size = size_of(slants)
    lasts = [step[1] for step in steps_of(slants)]
    # By its last row, noughts behind it, a corner makes 1 at its own last place and 0 ahead of it.
    return [(by(ONE, row[-1]), times_row(slants, row + (NOUGHT,) * (size - len(row)))) for row in lasts]


def steps_weights(slants):
    """Tell the list of the weights of step_squares."""
    return [weight for weight, row in step_squares(slants)]


def is_above(slants):
    """Tell whether pair_at of each row, but that of noughts, with itself is above 0."""
    return above_paper(slants)[0] == "above"


def above_squares_good(slants, thing):
    """Tell whether a thing is squares with no weight below 0, as many as the size, no row a sum of the others."""
    size = size_of(slants)
    if not squares_good(slants, thing) or len(thing) != size:
        return False
    weights_good = all([weight[0] > 0 for weight, row in thing])
    return weights_good and are_independent([row for weight, row in thing], size)


def not_above_good(slants, thing):
    """Tell whether a thing is a row of shares, not all 0, of which pair_at with itself is 0 or below."""
    if not row_good(slants, thing) or thing == (NOUGHT,) * size_of(slants):
        return False
    return pair_at(slants, thing, thing)[0] <= 0


def above_good(slants, thing):
    """Tell whether a thing is a paper that even slants are above nought, or that they are not."""
    need_even(slants)
    if not isinstance(thing, tuple) or len(thing) != 2:
        return False
    if thing[0] == "above":
        return above_squares_good(slants, thing[1])
    return thing[0] == "not" and not_above_good(slants, thing[1])


def above_paper(slants):
    """Tell a paper that even slants are above nought, or that they are not."""
    for row in apart_rows(slants):
        if pair_at(slants, row, row)[0] <= 0:
            return ("not", row)
    return ("above", squares_of(slants))
