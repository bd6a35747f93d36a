"""Round tables and half tables, and what becomes of two of them put together."""

from slanttables.backs import two_rows
from slanttables.errors import NoRow
from slanttables.slants import GREATEST_SIZE, need_numbers, need_slants, size_of


def is_round(slants):
    """Tell whether slants are round: begun anew behind as many as the size."""
    need_slants(slants)
    size = size_of(slants)
    return slants[:size - 1] == slants[size:]


def round_slants(ring):
    """Tell the round slants whose table has a ring as its first row."""
    need_numbers(ring, GREATEST_SIZE)
    return ring[1:] + ring


def need_two(one, other):
    """Refuse with NoRow what is no two tuples of as many numbers, one to five of them."""
    need_numbers(one, GREATEST_SIZE)
    need_numbers(other, GREATEST_SIZE)
    if len(one) != len(other):
        raise NoRow()


def product_sums(one, other):
    """Tell the list of the sums of those products whose two places come together to 0, to 1, and so on."""
    sums = [0] * (2 * len(one))
    for i, left in enumerate(one):
        for j, right in enumerate(other):
            sums[i + j] += left * right
    return sums


def round_product(one, other):
    """Tell the first row of the product of the round tables of two rings."""
    need_two(one, other)
    sums = product_sums(one, other)
    size = len(one)
    return tuple([near + far for near, far in zip(sums[:size], sums[size:])])


def is_half(slants):
    """Tell whether slants are half: their table has noughts above the middle slant."""
    need_slants(slants)
    return not any(slants[size_of(slants):])


def half_slants(column):
    """Tell the half slants whose table has these numbers as its first column."""
    need_numbers(column, GREATEST_SIZE)
    return column[::-1] + (0,) * (len(column) - 1)


def half_product(one, other):
    """Tell the first column of the product of the half tables of two tuples of numbers."""
    need_two(one, other)
    return tuple(product_sums(one, other)[:len(one)])


def half_back(column):
    """Tell the first column of the back of the half table of these numbers."""
    return two_rows(half_slants(column))[0]
