"""Papers that slants are full, or not, and the rows of which they make noughts."""

from slanttables.clearing import cleared
from slanttables.errors import NotFull
from slanttables.shares import NOUGHT, minus, one_at
from slanttables.slants import ends_good, makes, need_slants, share_rows, size_of


def one_rows_good(slants, thing):
    """Tell whether a thing is a list of rows by the i-th of which times_row is 1 at place i and 0 else."""
    size = size_of(slants)
    if not isinstance(thing, list) or len(thing) != size:
        return False
    return all([makes(slants, row, one_at(place, size)) for place, row in enumerate(thing)])


def nought_row_good(slants, thing):
    """Tell whether a thing is a row of shares, not all 0, by which times_row is noughts."""
    noughts = (NOUGHT,) * size_of(slants)
    return makes(slants, thing, noughts) and thing != noughts


def paper_good(slants, thing):
    """Tell whether a thing is a paper of slants."""
    need_slants(slants)
    if not isinstance(thing, tuple) or len(thing) not in (2, 3):
        return False
    if len(thing) == 3:
        return thing[0] == "full" and ends_good(slants, thing[1:]) and thing[1][0] != NOUGHT
    if thing[0] == "full":
        return one_rows_good(slants, thing[1])
    return thing[0] == "none" and nought_row_good(slants, thing[1])


def back_rows(slants):
    """Tell, of full slants, the list of the rows of their back."""
    size = size_of(slants)
    rows = [row + one_at(place, size) for place, row in enumerate(share_rows(slants))]
    return [row[size:] for row in cleared(rows, size)[0]]


def one_rows(slants):
    """Tell, of full slants, the list of the rows by the i-th of which times_row is 1 at place i and 0 else."""
    rows = back_rows(slants)
    return [tuple([row[place] for row in rows]) for place in range(len(rows))]


def paper_of(slants):
    """Tell a paper of slants."""
    free = free_rows(slants)
    if len(free) > 0:
        return ("none", free[0])
    return ("full", one_rows(slants))


def is_full(slants):
    """Tell whether times_row is noughts of the row of noughts alone."""
    return free_many(slants) == 0


def need_full(slants):
    """Refuse what is no slants, and then slants that are not full."""
    if not is_full(slants):
        raise NotFull()


def free_row(place, size, leading, places):
    """Tell the row that is 1 at a free place, and at each leading place what makes up for this."""
    row = list(one_at(place, size))
    for lead, at in zip(leading, places):
        row[at] = minus(NOUGHT, lead[place])
    return tuple(row)


def free_rows(slants):
    """Tell the list of the rows of the free places, rising."""
    need_slants(slants)
    size = size_of(slants)
    leading, places = cleared(share_rows(slants), size)
    return [free_row(place, size, leading, places) for place in range(size) if place not in places]


def free_many(slants):
    """Tell how many places are free."""
    return len(free_rows(slants))


def rank_of(slants):
    """Tell the size less how many places are free."""
    need_slants(slants)
    return size_of(slants) - free_many(slants)
