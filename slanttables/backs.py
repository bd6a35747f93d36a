"""Backs of slants, and how two rows alone make them."""

from slanttables.errors import NoRow
from slanttables.fullness import back_rows, need_full, one_rows
from slanttables.shares import NOUGHT, by, is_row, is_row_within, minus, one_at, plus, sum_of_products, times
from slanttables.slants import GREATEST_SIZE, ends_good, need_slants, share_rows, size_of


def is_table(thing):
    """Tell whether a thing is a table of shares."""
    if not isinstance(thing, tuple) or not 1 <= len(thing) <= GREATEST_SIZE:
        return False
    return all([is_row(row, len(thing)) for row in thing])


def share_table(slants):
    """Tell the table of slants as a table of shares."""
    return tuple(share_rows(slants))


def times_table(one, other):
    """Tell the first table of shares times the second."""
    if not is_table(one) or not is_table(other) or len(one) != len(other):
        raise NoRow()
    columns = [[row[place] for row in other] for place in range(len(other))]
    return tuple([tuple([sum_of_products(row, column) for column in columns]) for row in one])


def back_good(slants, thing):
    """Tell whether a thing is a back of slants."""
    need_slants(slants)
    size = size_of(slants)
    if not is_table(thing) or len(thing) != size:
        return False
    return times_table(share_table(slants), thing) == tuple([one_at(place, size) for place in range(size)])


def back_of(slants):
    """Tell the back of full slants."""
    need_full(slants)
    return tuple(back_rows(slants))


def two_rows(slants):
    """Tell the tuple of the first and the last column of the back of full slants."""
    need_full(slants)
    columns = one_rows(slants)
    return (columns[0], columns[-1])


def two_good(slants, thing):
    """Tell whether a thing is a tuple of two rows by which times_row is 1 at the first place alone, and at the last."""
    need_slants(slants)
    return ends_good(slants, thing)


def share_back(first, last, i, j):
    """Tell the share at row i, column j of what two rows make, not yet divided by the first's first share."""
    many = len(first)
    total = NOUGHT
    for k in range(min(i, j) + 1):
        total = plus(total, times(first[i - k], last[many - 1 - j + k]))
        if k < min(i, j):
            total = minus(total, times(last[i - k - 1], first[many - j + k]))
    return total


def back_by(first, last):
    """Tell the table of shares that two rows make: a back, where they are the two rows of full slants."""
    if not is_row_within(first, 1, GREATEST_SIZE) or first[0] == NOUGHT or not is_row(last, len(first)):
        raise NoRow()
    places = list(range(len(first)))
    return tuple([tuple([by(share_back(first, last, i, j), first[0]) for j in places]) for i in places])
