"""The numbers of tables: of a table itself, of its corners, and of parts of it."""

from slanttables.errors import NoNumber, NoRow
from slanttables.shares import are_within, is_within
from slanttables.slants import corner, need_slants, need_whole_row, size_of, table_of


def table_without(table, column):
    """Tell a table without its first row and this column."""
    return [row[:column] + row[column + 1:] for row in table[1:]]


def table_number(table):
    """Tell the number of a square table, a list of lists; 1 of one without rows."""
    if len(table) == 0:
        return 1
    total = 0
    sign = 1
    for column, number in enumerate(table[0]):
        total += sign * number * table_number(table_without(table, column))
        sign = -sign
    return total


def number_of(slants):
    """Tell the number of the table of slants."""
    return table_number(table_of(slants))


def corner_numbers(slants):
    """Tell the list of the numbers of the corners, by their sizes."""
    need_slants(slants)
    return [number_of(corner(slants, size)) for size in range(1, size_of(slants) + 1)]


def are_rising_places(thing, many):
    """Tell whether a thing is a tuple of places below many, each greater than the one ahead of it."""
    if not are_within(thing, 0, many - 1):
        return False
    return all([left < right for left, right in zip(thing, thing[1:])])


def part_number(slants, rows, columns):
    """Tell the number of the table of just these rows and columns."""
    need_slants(slants)
    size = size_of(slants)
    if not are_rising_places(rows, size) or not are_rising_places(columns, size) or len(rows) != len(columns):
        raise NoRow()
    table = table_of(slants)
    return table_number([[table[i][j] for j in columns] for i in rows])


def put_number(slants, place, row):
    """Tell the number of the table in which this row stands as the column of this place."""
    need_slants(slants)
    if not is_within(place, 0, size_of(slants) - 1):
        raise NoNumber()
    need_whole_row(slants, row)
    return table_number([
        line[:place] + [number] + line[place + 1:] for line, number in zip(table_of(slants), row)
    ])


def weak_sizes(slants):
    """Tell the rising list of the sizes of the corners whose number is 0."""
    return [size for size, number in enumerate(corner_numbers(slants), start=1) if number == 0]
