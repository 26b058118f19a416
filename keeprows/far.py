"""The store at a far row: answers behind any number of rows."""

from keeprows.checks import ROWS, check_moment, is_from
from keeprows.courses import Course
from keeprows.errors import InvalidArgument, InvalidNumber
from keeprows.growth import Growth
from keeprows.links import LinkCourse
from keeprows.spans import part_of
from keeprows.stores import Book
from keeprows.turns import KINDS, Tally, Turn


def place_of(position, many):
    """Return the place that a position tells where so many pages are in use."""
    if position < many:
        return ("use", position)
    return ("list", position - many)


class Far:
    """A store behind any number of rows; it never changes."""

    def __init__(self, settings):
        # The first one raises the errors of wrong settings.
        self.course = Course(settings, False)
        self.counted = Course(settings, True)
        self.growth = Growth(self.course)
        self.links = LinkCourse(self.course)
        self.settings = settings

    def behind(self, moment):
        """Return the Book of the store behind so many rows."""
        check_moment(moment)
        return Book(self.course.state_behind(moment))

    def block_of(self, moment):
        """Return the number of the block that has the heap page of the next row."""
        check_moment(moment)
        return self.course.block_at(moment)

    def moves(self, first, last):
        """Return the Turn of the blocks from first to last - 1."""
        self._check_blocks(first, last)
        order = self.course.between(first, last).order
        ahead = self.course.many_at(first)
        behind = self.course.many_at(last)
        places = [place_of(position, ahead) for position in order]
        return Turn(places[:behind], places[behind:], len(order) - ahead)

    def counts(self, first, last):
        """Return the Tally of the blocks from first to last - 1."""
        self._check_blocks(first, last)
        sums = self.counted.between(first, last).sums
        ahead = self.counted.many_at(first)
        told = {}
        for position, total in enumerate(sums):
            told[place_of(position, ahead)] = {kind: part_of(total, at) for at, kind in enumerate(KINDS)}
        return Tally(told)

    def _check_blocks(self, first, last):
        if not self._is_block_from(first, self.course.first_block):
            raise InvalidNumber(first)
        if not self._is_block_from(last, first + 1):
            raise InvalidNumber(last)

    def _is_block_from(self, block, least):
        return is_from(block, least) and self.course.begin_of(block) <= ROWS


def check_far(far):
    """Raise InvalidArgument for what is no Far."""
    if not isinstance(far, Far):
        raise InvalidArgument("far")
