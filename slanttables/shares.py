"""Whole numbers and shares, reckoned with exactly.

A share is a tuple (top, bottom) in lowest terms, its bottom above 0. What
reckons here takes and tells such shares alone and does not test them: the
functions that are asked from outside do, with is_share and is_row.
"""

NOUGHT = (0, 1)
ONE = (1, 1)


def is_whole(thing):
    """Tell whether a thing is a whole number: a truth is none."""
    return isinstance(thing, int) and not isinstance(thing, bool)


def is_within(thing, least, most):
    """Tell whether a thing is a whole number from least to most."""
    return is_whole(thing) and least <= thing <= most


def are_within(thing, least, most):
    """Tell whether a thing is a tuple of whole numbers from least to most, perhaps of none."""
    return isinstance(thing, tuple) and all([is_within(number, least, most) for number in thing])


def common_divisor(one, other):
    """Tell the greatest number that divides both; 0 where both are 0."""
    while other != 0:
        one, other = other, one % other
    return abs(one)


def is_share(thing):
    """Tell whether a thing is a share."""
    if not isinstance(thing, tuple) or len(thing) != 2:
        return False
    top, bottom = thing
    if not is_whole(top) or not is_whole(bottom):
        return False
    return bottom > 0 and common_divisor(top, bottom) == 1


def is_row_within(thing, least, most):
    """Tell whether a thing is a row of least to most shares."""
    if not isinstance(thing, tuple) or not least <= len(thing) <= most:
        return False
    return all([is_share(part) for part in thing])


def is_row(thing, many):
    """Tell whether a thing is a row of this many shares."""
    return is_row_within(thing, many, many)


def share_by(top, bottom):
    """Tell the share that top divided by bottom, which is not 0, comes to."""
    assert bottom != 0
    divisor = common_divisor(top, bottom)
    if bottom < 0:
        divisor = -divisor
    return (top // divisor, bottom // divisor)


def plus(one, other):
    """Tell the sum of two shares."""
    return share_by(one[0] * other[1] + other[0] * one[1], one[1] * other[1])


def minus(one, other):
    """Tell the first share less the second."""
    return share_by(one[0] * other[1] - other[0] * one[1], one[1] * other[1])


def times(one, other):
    """Tell the product of two shares."""
    return share_by(one[0] * other[0], one[1] * other[1])


def by(one, other):
    """Tell the first share divided by the second, which is not 0."""
    return share_by(one[0] * other[1], one[1] * other[0])


def row_of(numbers):
    """Tell whole numbers as a row of shares."""
    return tuple([(number, 1) for number in numbers])


def one_at(place, many):
    """Tell the row of this many shares that is 1 at this place and 0 else."""
    return row_of([int(at == place) for at in range(many)])


def row_by(row, share):
    """Tell a row with each share divided by this one, which is not 0."""
    return tuple([by(part, share) for part in row])


def row_less(one, share, other):
    """Tell the first row less the other one, this taken share times."""
    return tuple([minus(left, times(share, right)) for left, right in zip(one, other)])


def sum_of_products(one, other):
    """Tell what the products of the shares of two rows, place by place, come to together."""
    total = NOUGHT
    for left, right in zip(one, other):
        total = plus(total, times(left, right))
    return total
