"""Checks of numbers that callers hand in: any object may come."""

from keeprows.errors import InvalidNumber, InvalidRow

ROWS = 10 ** 30


def is_within(number, least, most):
    """Return whether an object is an integer from least to most."""
    # A bool is an int for isinstance, but the document counts it as none.
    return isinstance(number, int) and not isinstance(number, bool) and least <= number <= most


def check_row(row):
    """Raise InvalidRow for what is no row."""
    if not is_within(row, 0, ROWS - 1):
        raise InvalidRow(row)


def check_moment(moment):
    """Raise InvalidNumber for what is no moment."""
    if not is_within(moment, 0, ROWS):
        raise InvalidNumber(moment)
