"""The times that something happens to one page, counted and found at any row."""

from keeprows.checks import ROWS
from keeprows.searches import seek
from keeprows.spans import goal_of, kind_of, part_of
from keeprows.states import do_row
from keeprows.turns import KINDS


def kinds_for(kind, kinds):
    """Return the kinds that are asked for: one of some kinds, or all of them if it is None."""
    return kinds if kind is None else (kind,)


class TimesSeeker:
    """Seeks the time with a number that something of some kinds happens to a page, wherever the page comes."""

    def __init__(self, page, number, kinds):
        # Behind 0 rows all pages stand on the list, ascending: so a page is its position.
        self.position = page
        self.left = number
        self._kinds = kinds
        self._parts = [KINDS.index(kind) for kind in kinds]

    def is_in(self, span):
        """Return whether this time comes within a span."""
        return self._count(span) > self.left

    def pass_over(self, span):
        """Go to the end of a span."""
        self.left -= self._count(span)
        self.position = goal_of(span, self.position)

    def events_among(self, events):
        """Return those events of a row that are such, for the page."""
        return [event for event in events if event[1] == self.position and kind_of(event) in self._kinds]

    def _count(self, span):
        if self.position >= len(span.sums):
            return 0
        total = span.sums[self.position]
        return sum([part_of(total, at) for at in self._parts])


def times_of(far, page, moment, kinds):
    """Return how often something of some kinds has happened to a page behind so many rows."""
    course = far.counted
    parts, state = course.stop_ahead(moment)
    seeker = TimesSeeker(page, 0, kinds)
    for span in course.parts_ahead(moment) + parts:
        seeker.pass_over(span)
    # What was passed over has been taken off from no time at all.
    times = -seeker.left
    while state.done < moment:
        times += len(seeker.events_among(do_row(state)))
    return times


def time_of(far, page, number, kinds):
    """Return (row, event) for the time with a number that something of some kinds happens to a page, None if none."""
    seeker = TimesSeeker(page, number, kinds)
    piece = seek(far.counted, seeker)
    if piece is None:
        return None
    state = far.counted.piece_state(piece[0], piece[1])
    while state.done < ROWS:
        events = seeker.events_among(do_row(state))
        if len(events) > seeker.left:
            return (state.done - 1, events[seeker.left])
        seeker.left -= len(events)
    return None
