"""Inputs that several tests share."""

import itertools

from tests.reference import kind_by_orders, signs_by_changes

# One of each kind that may be handed in, none of them slants, a table, a row of shares or a size.
OTHER_THINGS = [
    None, True, False, 6, -1, 10 ** 39, -(10 ** 39), "", "text", "1", "a\nb",
    [], {}, (), [None], (None,), [[]], ((),), [()], ([],), {1: 2}, {"a": [1]}, ({},), [{}],
    ("1",), (True,), (False,), ((True,),), [[True]], [["1"]], [[None]], [(1,)],
    [[[[[[[[1]]]]]]]], [0] * 900, (0,) * 900, [[0]] * 900,
]

SOME_SLANTS = [
    (0,), (7,), (-50,), (50,),
    (1, 2, 3), (0, 0, 0), (-50, 50, -50), (4, -4, 4),
    (1, 2, 3, 4, 5), (5, 0, -7, 0, 5), (9, -8, 7, -6, 5),
    (1, -2, 3, -4, 5, -6, 7), (0, 0, 0, 1, 0, 0, 0), (50, 49, 48, 0, -48, -49, -50),
    (1, 2, 3, 4, 5, 6, 7, 8, 9), (-50, 50, 3, 0, -1, 0, 3, 17, -23), (2, 0, 0, 0, 1, 0, 0, 0, -2),
]

SOME_SHARES = [
    (1, 2), (-2, 3), (0, 1), (5, 1), (-7, 4), (10 ** 29 + 1, 10 ** 29), (1, 10 ** 29), (-3, 1), (22, 7),
]

# Each looks somewhat like a share and is none.
NO_SHARES = [
    (2, 4), (-2, 4), (0, 2), (3, 3), (0, 0), (1, 0), (-1, 0), (1, -2), (-1, -2), (0, -1),
    (True, 1), (1, True), (False, 1), (True, True), (1,), (1, 2, 3), (1, 1, 1), (), [1, 2], [], 1, 0, -5,
    True, False, None, "1/2", "12", {1: 2}, {}, ("1", "2"), (None, 1), (1, None), ((1, 1), 1), (1, (1, 1)), ([1], 1),
    (6 * 10 ** 28, 4 * 10 ** 28),
]

# Some things that are no shares are slants; as True is equal to 1, they are told by how they are written.
SLANTS_AMONG_NO_SHARES = ["(1,)", "(1, 2, 3)", "(1, 1, 1)"]

NO_SLANTS = [thing for thing in OTHER_THINGS + NO_SHARES if repr(thing) not in SLANTS_AMONG_NO_SHARES] + [
    (51,), (-51,), (50, 51, 50), (-51, 0, 0), (0, 0, -51), (0, 0, 0, 0, 51), (10 ** 39,),
    (1, 2), (1, 2, 3, 4), (1,) * 6, (1,) * 8, (1,) * 10, (1,) * 11, (1,) * 13, (0,) * 999,
    [1], [1, 2, 3], [0] * 9, (1, 2, True), (False, 0, 0), (1, True, 1), (1, None, 2), (1, "2", 3), "1", "123",
    (1, [2], 3), (1, (2,), 3), (1, {}, 3), {0: 1}, {1: 1, 2: 2, 3: 3}, ((1, 2, 3),), ((1, 2, 3), (1, 2, 3), (1, 2, 3)),
    [[1]], [[1, 2], [3, 1]], ((1, 1),),
]


def no_rows(size):
    """Tell things that are no row of this many shares."""
    row = tuple(SOME_SHARES[:size])
    things = OTHER_THINGS + NO_SHARES + [
        row[:-1], row + ((1, 1),), list(row), [list(share) for share in row], tuple(list(share) for share in row),
        {at: share for at, share in enumerate(row)}, (row,), str(row), (1,) * size, (0,) * size, (True,) * size,
    ]
    for place in range(size):
        things += [row[:place] + (thing,) + row[place + 1:] for thing in NO_SHARES]
    return things


def no_whole_rows(size):
    """Tell things that are no row of this many whole numbers, each from -1000 to 1000."""
    row = (1000, -1000, 0, 7, -3)[:size]
    things = OTHER_THINGS + [
        row[:-1], row + (0,), list(row), (row,), [row], str(row), {at: 0 for at in range(size)},
        tuple((number, 1) for number in row), tuple(str(number) for number in row), ((1, 1),) * size,
    ]
    for place in range(size):
        things += [row[:place] + (thing,) + row[place + 1:] for thing in (
            1001, -1001, 10 ** 39, -(10 ** 39), True, False, None, "0", "", [0], (0,), (0, 1), {}, [], ())]
    return things


def whole_rows_for(size):
    """Tell several rows of this many whole numbers, each from -1000 to 1000."""
    numbers = (1000, -1000, 0, 1, -1, 37, -250, 999, 6)
    rows = [tuple(numbers[(start + 2 * i) % 9] for i in range(size)) for start in range(9)]
    return rows + [(0,) * size, (1000,) * size, (-1000,) * size]


def rows_for(size):
    """Tell several rows of this many shares."""
    many = len(SOME_SHARES)
    return [tuple(SOME_SHARES[(start + step * i) % many] for i in range(size)) for start in range(many) for step in (1, 2)]


def ones_and_noughts(size, each):
    """Tell slants of this size out of -1, 0 and 1: each so-manieth of all of them."""
    return list(itertools.islice(itertools.product((-1, 0, 1), repeat=2 * size - 1), 0, None, each))


def spread_slants(size, many):
    """Tell so many slants of this size with numbers all over the place."""
    return [tuple((37 * seed * seed + 53 * k * k * k + 29 * seed * k + 11 * k) % 101 - 50 for k in range(2 * size - 1))
            for seed in range(1, many + 1)]


MANY_SLANTS = SOME_SLANTS + [
    (0, 0, 0, 0, 0), (1, 1, 1, 1, 1), (0, 0, 0, 1, 2), (2, 1, 0, 0, 0), (50, 50, -50, 50, 50), (0, 1, 0, 0, 0),
    (0,) * 7, (3,) * 7, (0, 0, 0, 0, 1, 2, 3), (3, 2, 1, 0, 0, 0, 0), (0, 0, 0, 0, 0, 5, 0), (1, 0, 0, 0, 0, 0, 1),
    (0,) * 9, (-50,) * 9, (50,) * 9, (0, 0, 0, 0, 0, 1, 2, 3, 4), (4, 3, 2, 1, 0, 0, 0, 0, 0), (1, -1) * 4 + (1,),
    (0, 0, 0, 0, 0, 0, 2, 0, 0), (0, 0, 0, 0, 0, 0, 0, 0, 1), (1, 0, 0, 0, 0, 0, 0, 0, 0), (50, 0, 0, 0, 0, 50, 0, 0, 0),
] + [slants for size, each in ((1, 1), (2, 1), (3, 2), (4, 19), (5, 151)) for slants in ones_and_noughts(size, each)] + [
    slants for size in range(1, 6) for slants in spread_slants(size, 9)]


def sorted_out(all_slants):
    """Tell slants by their kind: strong, full but not strong, not full."""
    kinds = {"strong": [], "full": [], "not full": []}
    for slants in dict.fromkeys(all_slants):
        kinds[kind_by_orders(slants)].append(slants)
    return kinds


SLANTS_BY_KIND = sorted_out(MANY_SLANTS)
STRONG = SLANTS_BY_KIND["strong"]
FULL_NOT_STRONG = SLANTS_BY_KIND["full"]
NOT_FULL = SLANTS_BY_KIND["not full"]

FULL = STRONG + FULL_NOT_STRONG

FULL_OF_EACH_SIZE = [
    (1,), (1, 2, 3), (3, 0, 5), (5, -1, 3, 2, 4), (1, 0, 0, 1, 0), (2, -1, 3, 5, 4, 0, 7), (1, 0, 0, 0, 1, 0, 0),
    (1, 1, 0, 0, 2, 0, 3, 0, -1), (0, 0, 0, 0, 1, 0, 0, 0, 0),
]

NOT_FULL_OF_EACH_SIZE = [
    (0,), (4, 4, 4), (0, 0, 0), (1, 2, 3, 4, 5), (0, 0, 0, 1, 2), (3,) * 7, (1, -2, 3, -4, 5, -6, 7), (0,) * 9, (-50,) * 9,
    (1, 2, 3, 4, 5, 6, 7, 8, 9),
]


def noughts(size):
    return ((0, 1),) * size


def next_share(share):
    """Tell a share that is 1 more."""
    return (share[0] + share[1], share[1])


def rows_near(row):
    """Tell the row with another thing at each place in turn: what is no share, and another share."""
    return [row[:place] + (other,) + row[place + 1:] for place, share in enumerate(row)
            for other in NO_SHARES + [next_share(share)]]


def even_slants(half):
    """Tell the even slants whose middle number and those behind it are these."""
    return half[:0:-1] + half


ALL_EVEN = [even_slants(half) for size in range(1, 6) for half in itertools.product((-1, 0, 1), repeat=size)] + [
    even_slants(half) for half in [
        (50,), (-50,), (7,), (2, 1), (1, 2), (-2, 1), (50, -50), (49, 50), (50, 49), (2, 1, 0), (2, -1, 0), (-2, 1, 0), (5, 4, 3),
        (3, 2, 1), (50, 50, -50), (0, 0, 7), (0, 7, 0), (4, -3, 2), (1, 2, 3, 4), (4, 3, 2, 1), (50, 10, 20, -30), (2, -1, 0, 0),
        (6, -4, 1, 0), (0, 5, 0, 5), (7, 7, 7, 7), (-9, 2, -1, 3), (5, 4, 3, 2, 1), (1, 2, 3, 4, 5), (2, -1, 0, 0, 0),
        (50, -20, 10, 0, 30), (-50, 49, -48, 47, -46), (6, -4, 1, 0, 0), (0, 0, 3, 0, 0), (0, 4, 0, -4, 0), (8, 8, 8, 8, 8),
        (2, 1, -1, -2, -1), (2, -2, 2, -2, 2), (48, 0, 0, 0, -48), (0, 1, 2, 3, 4), (20, 5, -3, 2, 1),
    ]] + [even_slants(slants[:size]) for size in range(1, 6) for slants in spread_slants(size, 12)]

EVEN = list(dict.fromkeys(ALL_EVEN))
NOT_EVEN = [slants for slants in MANY_SLANTS if slants != slants[::-1]]
EVEN_STRONG = [slants for slants in EVEN if kind_by_orders(slants) == "strong"]
EVEN_WEAK = [slants for slants in EVEN if kind_by_orders(slants) != "strong"]
ABOVE = [slants for slants in EVEN if signs_by_changes(slants)[1:] == (0, 0)]
NOT_ABOVE = [slants for slants in EVEN if signs_by_changes(slants)[1:] != (0, 0)]

EVEN_OF_EACH_SIZE = [
    (1,), (-4,), (0,), (1, 2, 1), (2, 1, 2), (3, 3, 3), (0, 0, 0), (0, -1, 2, -1, 0), (1, 0, 0, 0, 1), (2, 0, 1, 0, 2), (5,) * 5,
    (0, 0, -1, 2, -1, 0, 0), (4, 3, 2, 1, 2, 3, 4), (0, 1, 0, 0, 0, 1, 0), (1, 0, 0, 0, 0, 0, 1), (0,) * 7,
    (0, 0, 0, -1, 2, -1, 0, 0, 0), (1, 2, 3, 4, 5, 4, 3, 2, 1), (0, 0, 3, 0, 0, 0, 3, 0, 0), (-1,) * 9,
    (1, 0, 0, 0, 0, 0, 0, 0, 1),
]
