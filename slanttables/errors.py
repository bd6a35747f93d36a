"""The refusals of the package."""


class SlantError(ValueError):
    """Any refusal."""


class NoSlants(SlantError):
    """What was handed in for slants is none."""


class NoRow(SlantError):
    """What was handed in for a row is none that fits."""


class NoNumber(SlantError):
    """What was handed in for a number is none that fits."""


class NoLine(SlantError):
    """What was told to a desk is no row that it knows."""


class NotEven(SlantError):
    """The slants are not the same from behind."""


class NotFull(SlantError):
    """The slants are not full."""


class NotStrong(SlantError):
    """The slants have a corner that is not full; the first such is of this size."""

    def __init__(self, size):
        self.size = size


class NoText(SlantError):
    """What was handed in to be read is no such text; this row, from 1 on, is the first that is wrong."""

    def __init__(self, row):
        self.row = row


class TooGreat(SlantError):
    """There are many of a thing, and most is how many there may be."""

    def __init__(self, many, most):
        self.many = many
        self.most = most
