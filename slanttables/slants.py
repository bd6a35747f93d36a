"""Slants, the tables that they tell, and rows that the tables are times."""

from slanttables.errors import NoNumber, NoRow, NoSlants
from slanttables.shares import are_within, is_row, is_whole, is_within, one_at, row_of, sum_of_products

LEAST = -50
MOST = 50
GREATEST_SIZE = 5
LEAST_IN_ROW = -1000
MOST_IN_ROW = 1000


def size_of(slants):
    """Tell the size of what is known to be slants."""
    return (len(slants) + 1) // 2


def slants_good(thing):
    """Tell whether a thing is slants of some size."""
    if not are_within(thing, LEAST, MOST) or len(thing) % 2 == 0:
        return False
    return size_of(thing) <= GREATEST_SIZE


def need_slants(thing):
    """Refuse with NoSlants what is no slants."""
    if not slants_good(thing):
        raise NoSlants()


def table_of(slants):
    """Tell the table of slants, a list of rows, all of them new."""
    need_slants(slants)
    size = size_of(slants)
    return [list(slants[size - 1 - i:2 * size - 1 - i]) for i in range(size)]


def is_number_list(thing, many):
    """Tell whether a thing is a list of this many whole numbers."""
    if not isinstance(thing, list) or len(thing) != many:
        return False
    return all([is_whole(number) for number in thing])


def is_square(thing):
    """Tell whether a thing is a list of one or more lists of as many whole numbers as it has lists."""
    if not isinstance(thing, list) or len(thing) == 0:
        return False
    return all([is_number_list(row, len(thing)) for row in thing])


def edge_of(table):
    """Tell the first column, from below, and the first row behind it: each slant begins there."""
    column = [row[0] for row in table]
    return tuple(column[::-1] + table[0][1:])


def slants_of(thing):
    """Tell the slants whose table a thing is."""
    # True is equal to 1, so the kinds of the numbers are looked at ahead of the comparison.
    if not is_square(thing):
        raise NoSlants()
    slants = edge_of(thing)
    if not slants_good(slants) or table_of(slants) != thing:
        raise NoSlants()
    return slants


def turned_slants(slants):
    """Tell the slants whose table has rows for columns."""
    need_slants(slants)
    return slants[::-1]


def mirrored_slants(slants):
    """Tell the slants whose table has the rows, and the columns, in the other order."""
    need_slants(slants)
    return slants[::-1]


def corner(slants, size):
    """Tell the slants of the first rows and columns, of as many as size."""
    need_slants(slants)
    whole_size = size_of(slants)
    if not is_within(size, 1, whole_size):
        raise NoNumber()
    return slants[whole_size - size:whole_size + size - 1]


def row_good(slants, thing):
    """Tell whether a thing is a row of as many shares as the size."""
    need_slants(slants)
    return is_row(thing, size_of(slants))


def share_rows(slants):
    """Tell the list of the rows of the table, each as a row of shares."""
    return [row_of(numbers) for numbers in table_of(slants)]


def times_row(slants, row):
    """Tell the row of shares that the table of slants, times a row, comes to."""
    if not row_good(slants, row):
        raise NoRow()
    return tuple([sum_of_products(line, row) for line in share_rows(slants)])


def makes(slants, thing, row):
    """Tell whether a thing is a row of shares by which times_row is this row of shares."""
    return row_good(slants, thing) and times_row(slants, thing) == row


def ends_good(slants, thing):
    """Tell whether a thing is a tuple of two rows by which times_row is 1 at the first place alone, and at the last."""
    if not isinstance(thing, tuple) or len(thing) != 2:
        return False
    size = size_of(slants)
    return makes(slants, thing[0], one_at(0, size)) and makes(slants, thing[1], one_at(size - 1, size))


def need_whole_row(slants, thing):
    """Refuse with NoRow what is no row of as many whole numbers as the size, none too small or too great."""
    if not are_within(thing, LEAST_IN_ROW, MOST_IN_ROW) or len(thing) != size_of(slants):
        raise NoRow()


def need_numbers(thing, most):
    """Refuse with NoRow what is no tuple of one to most whole numbers, each such as slants have."""
    if not are_within(thing, LEAST, MOST) or not 1 <= len(thing) <= most:
        raise NoRow()
