"""Rows of shares, cleared: exchanged, divided, and lessened by shares of one another."""

from slanttables.shares import NOUGHT, row_by, row_less


def first_with(rows, place):
    """Tell the number of the first row that is not 0 at this place; None where all are 0 there."""
    for at, row in enumerate(rows):
        if row[place] != NOUGHT:
            return at
    return None


def without_place(rows, lead, place):
    """Tell the rows, each lessened by a share of the leading row so that it is 0 at this place."""
    return [row_less(row, row[place], lead) for row in rows]


def cleared(rows, many):
    """Tell the tuple (rows, places) of the leading rows, cleared, and the place that each of them leads at.

    Places are looked at from the left, the first many of them. At its place a
    leading row is 1, all others are 0 there, and so is it itself at all places
    ahead of it. Rows that lead nowhere are 0 at the first many places and left out.
    """
    leading = []
    places = []
    rest = list(rows)
    for place in range(many):
        at = first_with(rest, place)
        if at is not None:
            lead = row_by(rest[at], rest[at][place])
            leading = without_place(leading, lead, place) + [lead]
            rest = without_place(rest[:at] + rest[at + 1:], lead, place)
            places.append(place)
    return (leading, places)


def are_independent(rows, many):
    """Tell whether, of these rows of this many shares, none is a sum of shares of the others, or of none of them."""
    return len(cleared(rows, many)[0]) == len(rows)
