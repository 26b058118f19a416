"""How the file of a store grows, up to the last row."""

from keeprows.checks import ROWS
from keeprows.searches import seek, seek_from
from keeprows.states import do_row


class SizeSeeker:
    """Seeks what needs more pages than a file has; what is passed over does not matter."""

    def __init__(self, size):
        self.size = size

    def is_in(self, span):
        """Return whether a span needs more pages."""
        return len(span.order) > self.size

    def pass_over(self, span):
        """Do nothing: how many pages a span needs hangs on nothing ahead of it."""


class Growth:
    """All moments behind which a file has more pages than ahead of the row, as far as they were asked for."""

    def __init__(self, course):
        self._course = course
        self._found = []
        self._seeker = SizeSeeker(0)
        self._block = 0
        self._ended = False

    def told(self, number):
        """Return (moment, pages) for the growth with a number, from 0; None if there are not so many."""
        while len(self._found) <= number and not self._ended:
            self._look_on()
        if number < len(self._found):
            return self._found[number]
        return None

    def number_with(self, size):
        """Return the number of the first growth to so many pages; it may be behind the last one."""
        while not self._ended and self._seeker.size < size:
            self._look_on()
        return self._number_from(1, size)

    def number_behind(self, moment):
        """Return the number of the first growth behind later moments only; it may be behind the last one."""
        while not self._ended and (not self._found or self._found[-1][0] <= moment):
            self._look_on()
        return self._number_from(0, moment + 1)

    def pages_behind(self, moment):
        """Return how many pages the file has behind so many rows."""
        number = self.number_behind(moment)
        if number == 0:
            return 0
        return self._found[number - 1][1]

    def _number_from(self, part, least):
        """Return how many of the growths that were found have a part, which grows with them, that is below a number."""
        low = 0
        high = len(self._found)
        while low < high:
            middle = (low + high) // 2
            if self._found[middle][part] < least:
                low = middle + 1
            else:
                high = middle
        return low

    def _look_on(self):
        """Find the next growth, and all others up to the end of its piece."""
        if self._block == 0:
            piece = seek(self._course, self._seeker)
        else:
            piece = seek_from(self._course, self._seeker, self._block, 0)
        if piece is None:
            self._ended = True
            return
        self._block = piece[0]
        state = self._course.piece_state(piece[0], piece[1])
        end = self._course.piece_end(piece[0], piece[1])
        while state.done < min(end, ROWS):
            do_row(state)
            if state.size > self._seeker.size:
                self._seeker.size = state.size
                self._found.append((state.done, state.size))
        self._ended = end >= ROWS
