"""Checks of numbers that callers hand in: any object may come."""

from keeprows.errors import InvalidArgument, InvalidNumber, InvalidPage, InvalidRow

ROWS = 10 ** 30


def is_from(number, least):
    """Return whether an object is an integer that is not below least."""
    # A bool is an int for isinstance, but the document counts it as none.
    return isinstance(number, int) and not isinstance(number, bool) and least <= number


def is_within(number, least, most):
    """Return whether an object is an integer from least to most."""
    return is_from(number, least) and number <= most


def check_row(row):
    """Raise InvalidRow for what is no row."""
    if not is_within(row, 0, ROWS - 1):
        raise InvalidRow(row)


def check_number(number, least, most):
    """Raise InvalidNumber for what is no integer from least to most."""
    if not is_within(number, least, most):
        raise InvalidNumber(number)


def check_moment(moment):
    """Raise InvalidNumber for what is no moment."""
    check_number(moment, 0, ROWS)


def check_page(page):
    """Raise InvalidPage for what is no integer from 0 on."""
    if not is_from(page, 0):
        raise InvalidPage(page)


def check_number_from(number, least):
    """Raise InvalidNumber for what is no integer from least on."""
    if not is_from(number, least):
        raise InvalidNumber(number)


def check_kind(kind, kinds):
    """Raise InvalidArgument for what is neither one of some kinds nor None."""
    if kind is not None and not (isinstance(kind, str) and kind in kinds):
        raise InvalidArgument("kind")
