"""Tables solved step by step, from corner to corner.

A table has the same numbers in its last rows and columns as in its first
ones. So a nought behind a row of the corner, or ahead of it, changes what
times_row makes of it at one place alone, and one share makes this good.
"""

from slanttables.corners import weak_sizes
from slanttables.errors import NoNumber, NoRow, NotStrong
from slanttables.shares import NOUGHT, ONE, minus, row_by, row_less, row_of, times
from slanttables.slants import corner, ends_good, makes, need_slants, need_whole_row, size_of, times_row


def first_weak(slants):
    """Tell the size of the first corner that is not full; None of strong slants."""
    sizes = weak_sizes(slants)
    return sizes[0] if len(sizes) > 0 else None


def need_strong(slants):
    """Refuse what is no slants, and then slants that are not strong."""
    size = first_weak(slants)
    if size is not None:
        raise NotStrong(size)


def first_step(slants):
    """Tell the two rows of the corner of size 1, which are one."""
    row = row_by((ONE,), row_of(corner(slants, 1))[0])
    return (row, row)


def longer_step(slants, step):
    """Tell the two rows of slants out of those of the corner one less."""
    first = step[0] + (NOUGHT,)
    last = (NOUGHT,) + step[1]
    below = times_row(slants, first)[-1]
    above = times_row(slants, last)[0]
    # This is never 0: it is the slants' number times that of the corner two less, by the square of that one less.
    left = minus(ONE, times(below, above))
    return (row_by(row_less(first, below, last), left), row_by(row_less(last, above, first), left))


def steps_of(slants):
    """Tell the list of the tuples (first row, last row) of the corners, by their sizes."""
    need_strong(slants)
    steps = [first_step(slants)]
    for size in range(2, size_of(slants) + 1):
        steps.append(longer_step(corner(slants, size), steps[-1]))
    return steps


def step_next(slants, step):
    """Tell the tuple (first row, last row) of slants out of that of the corner one less."""
    need_strong(slants)
    size = size_of(slants)
    if size == 1:
        raise NoNumber()
    if not ends_good(corner(slants, size - 1), step):
        raise NoRow()
    return longer_step(slants, step)


def solved_steps(slants, right):
    """Tell the list of the rows that solve the corners, by their sizes, each by the first numbers of a row."""
    need_strong(slants)
    need_whole_row(slants, right)
    row = ()
    rows = []
    for size, step in enumerate(steps_of(slants), start=1):
        longer = row + (NOUGHT,)
        over = minus(times_row(corner(slants, size), longer)[-1], (right[size - 1], 1))
        row = row_less(longer, over, step[1])
        rows.append(row)
    return rows


def solved(slants, right):
    """Tell the row of shares by which times_row is this row of whole numbers."""
    return solved_steps(slants, right)[-1]


def solves(slants, right, thing):
    """Tell whether a thing is a row of shares by which times_row is this row of whole numbers."""
    need_slants(slants)
    need_whole_row(slants, right)
    return makes(slants, thing, row_of(right))
