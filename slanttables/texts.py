"""Slants and rows of shares, written as texts and read from them."""

from slanttables.errors import NoRow, NoText
from slanttables.shares import is_row_within, is_share, is_within
from slanttables.slants import GREATEST_SIZE, LEAST, MOST, need_slants, size_of

FIGURES = "0123456789"
MOST_FIGURES = 20
MOST_SHARES = 10


def number_read(word):
    """Tell the whole number that a word writes; None where it writes none."""
    figures = word.removeprefix("-")
    if not 1 <= len(figures) <= MOST_FIGURES or not all([sign in FIGURES for sign in figures]):
        return None
    if figures[0] == "0" and word != "0":
        return None
    return int(word)


def named_number(row, name, least, most):
    """Tell the number from least to most that a row has behind this name; None where it has none, or else more."""
    words = row.split(" ")
    if len(words) != 2 or words[0] != name:
        return None
    number = number_read(words[1])
    return number if is_within(number, least, most) else None


def slants_shown(slants):
    """Tell the text of slants."""
    need_slants(slants)
    return "\n".join([f"size {size_of(slants)}"] + [f"slant {number}" for number in slants])


def slants_read(text):
    """Tell the slants that a text writes."""
    if not isinstance(text, str):
        raise NoText(0)
    rows = text.split("\n")
    size = named_number(rows[0], "size", 1, GREATEST_SIZE)
    if size is None:
        raise NoText(1)
    numbers = []
    for at, row in enumerate(rows[1:], start=2):
        number = named_number(row, "slant", LEAST, MOST)
        if number is None or at > 2 * size:
            raise NoText(at)
        numbers.append(number)
    if len(rows) < 2 * size:
        raise NoText(len(rows) + 1)
    return tuple(numbers)


def share_shown(share):
    """Tell how a share is written."""
    top, bottom = share
    return str(top) if bottom == 1 else f"{top}/{bottom}"


def row_shown(row):
    """Tell the text of a row of one to ten shares."""
    if not is_row_within(row, 1, MOST_SHARES):
        raise NoRow()
    return " ".join([share_shown(share) for share in row])


def share_read(word):
    """Tell the share that a word writes; None where it writes none."""
    top, slash, bottom = word.partition("/")
    if slash == "":
        bottom = "1"
    elif bottom == "1":
        return None
    share = (number_read(top), number_read(bottom))
    return share if is_share(share) else None


def row_read(text):
    """Tell the row of one to ten shares that a text writes."""
    if not isinstance(text, str):
        raise NoText(0)
    row = tuple([share_read(word) for word in text.split(" ")])
    if len(row) > MOST_SHARES or None in row:
        raise NoText(1)
    return row
