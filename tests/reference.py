"""Reckoning with fractions and by other ways than the package's, to compare with."""

import functools
import itertools
from fractions import Fraction


def fractions_of(row):
    return [Fraction(top, bottom) for top, bottom in row]


def row_of_fractions(fractions):
    return tuple((number.numerator, number.denominator) for number in fractions)


def size_by_length(slants):
    return {1: 1, 3: 2, 5: 3, 7: 4, 9: 5}[len(slants)]


def number_by_orders(table):
    """Tell the number of a square table as the sum over all orders of its columns."""
    total = 0
    for order in itertools.permutations(range(len(table))):
        product = 1
        for i, j in enumerate(order):
            product *= table[i][j]
        turns = sum(order[i] > order[j] for j in range(len(order)) for i in range(j))
        total += -product if turns % 2 else product
    return total


def table_by_places(slants):
    size = size_by_length(slants)
    return [[slants[j - i + size - 1] for j in range(size)] for i in range(size)]


def numbers_by_orders(slants):
    """Tell the numbers of the corners of slants, by their sizes."""
    table = table_by_places(slants)
    return [number_by_orders([row[:size] for row in table[:size]]) for size in range(1, len(table) + 1)]


def kind_by_orders(slants):
    numbers = numbers_by_orders(slants)
    if numbers[-1] == 0:
        return "not full"
    return "full" if 0 in numbers else "strong"


def times_fractions(slants, row):
    """Tell, as fractions, what the table of slants makes of a row of shares."""
    return [sum(number * share for number, share in zip(line, fractions_of(row))) for line in table_by_places(slants)]


def one_alone(place, size):
    """Tell the fractions that are 1 at this place and 0 else."""
    return [Fraction(int(at == place)) for at in range(size)]


def ones_by_orders(slants):
    """Tell, of full slants, the rows by the i-th of which the table makes 1 at place i and 0 else."""
    return list(all_ones_by_orders(slants))


@functools.lru_cache(maxsize=None)
def all_ones_by_orders(slants):
    table = table_by_places(slants)
    number = number_by_orders(table)
    rows = []
    for at in range(len(table)):
        row = []
        for place in range(len(table)):
            put = [line[:place] + [int(i == at)] + line[place + 1:] for i, line in enumerate(table)]
            row.append(Fraction(number_by_orders(put), number))
        rows.append(row_of_fractions(row))
    return tuple(rows)


def columns_rank(columns):
    """Tell how many of these columns of whole numbers are no sum of shares of those ahead of them."""
    kept = []
    for column in columns:
        rest = [Fraction(number) for number in column]
        for lead, other in kept:
            share = rest[lead] / other[lead]
            rest = [mine - share * yours for mine, yours in zip(rest, other)]
        if any(rest):
            kept.append((next(at for at, number in enumerate(rest) if number), rest))
    return len(kept)


def free_places(slants):
    """Tell the places whose column of the table is a sum of shares of the columns ahead of it."""
    columns = list(zip(*table_by_places(slants)))
    return [place for place in range(len(columns)) if columns_rank(columns[:place + 1]) == columns_rank(columns[:place])]


def times_grid(one, other):
    """Tell the product of two square tables, lists of lists of numbers."""
    places = range(len(one))
    return [[sum(one[i][k] * other[k][j] for k in places) for j in places] for i in places]


def pair_by_places(slants, one, other):
    """Tell the sum, over all rows and columns, of the table's number times the one's fraction and the other's."""
    return sum(number * left * right for line, left in zip(table_by_places(slants), fractions_of(one))
               for number, right in zip(line, fractions_of(other)))


def changes(numbers):
    """Tell how often the sign changes from number to number, noughts left out."""
    left = [number for number in numbers if number]
    return sum((one > 0) != (other > 0) for one, other in zip(left, left[1:]))


@functools.lru_cache(maxsize=None)
def signs_by_changes(slants):
    """Tell the signs of even slants by the rule of signs, out of the sums of the numbers of parts.

    A part here has the same rows and columns; the sums are, with their signs by
    turns, the numbers ahead of the powers in the equation of the table's roots.
    """
    table = table_by_places(slants)
    size = len(table)
    sums = [sum(number_by_orders([[table[i][j] for j in part] for i in part])
                for part in itertools.combinations(range(size), many)) for many in range(size + 1)]
    above = changes([-total if many % 2 else total for many, total in enumerate(sums)])
    below = changes(sums)
    return (above, below, size - above - below)


def lengths_by_turns(numbers):
    """Tell the least lengths of rules of the numbers' beginnings, each made out of the one ahead (Massey's way)."""
    rule, other = [Fraction(1)], [Fraction(1)]
    length, since, before = 0, 1, Fraction(1)
    lengths = []
    for place, number in enumerate(numbers):
        missed = number + sum(rule[i] * numbers[place - i] for i in range(1, min(len(rule), place + 1)))
        if missed:
            longer = rule + [Fraction(0)] * (since + len(other) - len(rule))
            for i, part in enumerate(other):
                longer[since + i] -= missed / before * part
            if 2 * length <= place:
                length, other, before, since = place + 1 - length, rule, missed, 0
            rule = longer
        since += 1
        lengths.append(length)
    return lengths
