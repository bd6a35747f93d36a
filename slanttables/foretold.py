"""Rows of numbers that follow rules, and how the rules foretell what comes behind them."""

from slanttables.clearing import cleared
from slanttables.errors import NoNumber, NoRow
from slanttables.shares import NOUGHT, is_row_within, is_within, row_of, sum_of_products
from slanttables.slants import need_numbers

MOST_NUMBERS = 10
MOST_GONE_ON = 8


def is_rule(numbers, thing):
    """Tell whether a thing is a row of at most as many shares as there are numbers, perhaps of none."""
    return is_row_within(thing, 0, len(numbers))


def share_behind(shares, rule):
    """Tell the share that goes on behind shares by a rule that is no longer than they are many."""
    return sum_of_products(rule, shares[::-1])


def follows(numbers, thing):
    """Tell whether a thing is a rule that numbers follow."""
    need_numbers(numbers, MOST_NUMBERS)
    return is_rule(numbers, thing) and len(missed_by(numbers, thing)) == 0


def missed_by(numbers, rule):
    """Tell the rising list of the places at which numbers do not follow a rule."""
    need_numbers(numbers, MOST_NUMBERS)
    if not is_rule(numbers, rule):
        raise NoRow()
    shares = row_of(numbers)
    return [place for place in range(len(rule), len(numbers)) if share_behind(shares[:place], rule) != shares[place]]


def rule_of_length(numbers, length):
    """Tell a rule of this length that numbers follow; None where there is none."""
    shares = row_of(numbers)
    # Each row is what a rule of this length sees, the nearest ahead, and behind it what must come of it.
    rows = [shares[place - length:place][::-1] + (shares[place],) for place in range(length, len(numbers))]
    leading, places = cleared(rows, length + 1)
    if length in places:
        return None
    rule = [NOUGHT] * length
    for lead, place in zip(leading, places):
        rule[place] = lead[length]
    return tuple(rule)


def least_rule(numbers):
    """Tell a rule of the least length that numbers follow."""
    need_numbers(numbers, MOST_NUMBERS)
    length = 0
    rule = rule_of_length(numbers, length)
    while rule is None:
        length += 1
        rule = rule_of_length(numbers, length)
    return rule


def least_length(numbers):
    """Tell the least length of a rule that numbers follow."""
    return len(least_rule(numbers))


def is_only(numbers):
    """Tell whether numbers follow just one rule of the least length."""
    return 2 * least_length(numbers) <= len(numbers)


def lengths_of(numbers):
    """Tell the list of the least lengths of the numbers' beginnings."""
    need_numbers(numbers, MOST_NUMBERS)
    return [least_length(numbers[:many]) for many in range(1, len(numbers) + 1)]


def gone_on(numbers, rule, many):
    """Tell the row of this many shares that go on behind numbers by a rule that they follow."""
    if not follows(numbers, rule):
        raise NoRow()
    if not is_within(many, 0, MOST_GONE_ON):
        raise NoNumber()
    shares = row_of(numbers)
    for step in range(many):
        shares = shares + (share_behind(shares, rule),)
    return shares[len(numbers):]
