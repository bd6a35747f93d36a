"""Inputs that several tests share."""

from fractions import Fraction

# One of each kind that may be handed in, none of them slants, a table, a row of shares or a size.
OTHER_THINGS = [
    None, True, False, 6, -1, 10 ** 39, -(10 ** 39), "", "text", "1", "a\nb",
    [], {}, (), [None], (None,), [[]], ((),), [()], ([],), {1: 2}, {"a": [1]}, ({},), [{}],
    ("1",), (True,), (False,), ((True,),), [[True]], [["1"]], [[None]], [(1,)],
    [[[[[[[[1]]]]]]]], [0] * 900, (0,) * 900, [[0]] * 900,
]

SOME_SLANTS = [
    (0,), (7,), (-50,), (50,),
    (1, 2, 3), (0, 0, 0), (-50, 50, -50), (4, -4, 4),
    (1, 2, 3, 4, 5), (5, 0, -7, 0, 5), (9, -8, 7, -6, 5),
    (1, -2, 3, -4, 5, -6, 7), (0, 0, 0, 1, 0, 0, 0), (50, 49, 48, 0, -48, -49, -50),
    (1, 2, 3, 4, 5, 6, 7, 8, 9), (-50, 50, 3, 0, -1, 0, 3, 17, -23), (2, 0, 0, 0, 1, 0, 0, 0, -2),
]

SOME_SHARES = [
    (1, 2), (-2, 3), (0, 1), (5, 1), (-7, 4), (10 ** 29 + 1, 10 ** 29), (1, 10 ** 29), (-3, 1), (22, 7),
]

# Each looks somewhat like a share and is none.
NO_SHARES = [
    (2, 4), (-2, 4), (0, 2), (3, 3), (0, 0), (1, 0), (-1, 0), (1, -2), (-1, -2), (0, -1),
    (True, 1), (1, True), (False, 1), (True, True), (1,), (1, 2, 3), (1, 1, 1), (), [1, 2], [], 1, 0, -5,
    True, False, None, "1/2", "12", {1: 2}, {}, ("1", "2"), (None, 1), (1, None), ((1, 1), 1), (1, (1, 1)), ([1], 1),
    (6 * 10 ** 28, 4 * 10 ** 28),
]


def rows_for(size):
    """Tell several rows of this many shares."""
    many = len(SOME_SHARES)
    return [tuple(SOME_SHARES[(start + step * i) % many] for i in range(size)) for start in range(many) for step in (1, 2)]


def fractions_of(row):
    return [Fraction(top, bottom) for top, bottom in row]


def row_of_fractions(fractions):
    return tuple((number.numerator, number.denominator) for number in fractions)


def size_by_length(slants):
    return {1: 1, 3: 2, 5: 3, 7: 4, 9: 5}[len(slants)]
