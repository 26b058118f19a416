"""The settings of a store: how long rows are, and how the store works."""

from keeprows.checks import check_row, is_within
from keeprows.errors import InvalidSettings

MOST_LENGTHS = 6
MOST_UNITS = 64


def are_lengths(lengths):
    """Return whether an object is a list that may be the lengths of settings."""
    if not isinstance(lengths, list) or not 1 <= len(lengths) <= MOST_LENGTHS:
        return False
    return all([is_within(length, 1, MOST_UNITS) for length in lengths])


def bounds_behind(lengths):
    """Return (part, least, most) for the other parts, in their order, where rows have these lengths."""
    return [
        ("size", max(lengths), MOST_UNITS), ("fanout", 2, 8), ("records", 1, 16), ("every", 1, 40), ("keep", 1, 100),
    ]


class Settings:
    """How a store works."""

    def __init__(self, lengths, size, *, fanout, records, every, keep):
        if not are_lengths(lengths):
            raise InvalidSettings("lengths")
        given = {"size": size, "fanout": fanout, "records": records, "every": every, "keep": keep}
        for part, least, most in bounds_behind(lengths):
            if not is_within(given[part], least, most):
                raise InvalidSettings(part)
        self.lengths = tuple(lengths)
        self.size = size
        self.fanout = fanout
        self.records = records
        self.every = every
        self.keep = keep

    def __eq__(self, other):
        return (
            isinstance(other, Settings)
            and self.lengths == other.lengths
            and self.size == other.size
            and self.fanout == other.fanout
            and self.records == other.records
            and self.every == other.every
            and self.keep == other.keep
        )

    def length_of(self, row):
        """Return the length of a row, in units."""
        check_row(row)
        return self.lengths[row % len(self.lengths)]


def check_settings(settings):
    """Raise InvalidSettings for what is no Settings."""
    if not isinstance(settings, Settings):
        raise InvalidSettings("settings")
