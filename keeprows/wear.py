"""Wear: how often each page is written, by records and at checkpoints."""

from keeprows.checks import ROWS, check_kind, check_moment, check_number_from, check_page
from keeprows.far import check_far
from keeprows.packing import units_ahead
from keeprows.searches import seek
from keeprows.spans import writes_of
from keeprows.states import do_row, give_pages
from keeprows.times import kinds_for, time_of, times_of

# How a page is written.
WRITES = ("record", "write")


def wear_of(far, page, moment, *, kind=None):
    """Return how often a page has been written behind so many rows, in all or in one of the two kinds."""
    check_far(far)
    check_page(page)
    check_moment(moment)
    check_kind(kind, WRITES)
    return times_of(far, page, moment, kinds_for(kind, WRITES))


def wear_row(far, moment):
    """Return how often each page has been written behind so many rows, for all pages that have been taken."""
    check_far(far)
    check_moment(moment)
    span, state = far.counted.stop_with_span(moment)
    give_pages(state, span.order)
    wear = [writes_of(total) for total in span.sums]
    while state.done < moment:
        events = do_row(state)
        wear += [0] * (state.size - len(wear))
        for event in events:
            if event[0] in WRITES:
                wear[event[1]] += 1
    return wear


def most_worn(far, moment):
    """Return (page, number) of the page that has been written most often behind so many rows, None behind 0 rows."""
    wear = wear_row(far, moment)
    if moment == 0:
        return None
    return (wear.index(max(wear)), max(wear))


def writing_with(far, page, number):
    """Return (row, kind) for the time with a number that a page is written, None if there are not so many."""
    found = time_of(far, page, number, WRITES)
    if found is None:
        return None
    return (found[0], found[1][0])


def writing(far, page, number):
    """Return (row, kind) for the time with a number, from 0, that a page is written; None if there are not so many."""
    check_far(far)
    check_page(page)
    check_number_from(number, 0)
    return writing_with(far, page, number)


def last_writing(far, page, moment):
    """Return (row, kind) for the last row ahead of row number moment with which a page is written, or None."""
    number = wear_of(far, page, moment)
    if number == 0:
        return None
    return writing_with(far, page, number - 1)


def next_writing(far, page, moment):
    """Return (row, kind) for the first row from row number moment on with which a page is written, or None."""
    return writing_with(far, page, wear_of(far, page, moment))


def spent(far, moment):
    """Return (written, put): the units of all writings behind so many rows, and those of the rows themselves."""
    wear = wear_row(far, moment)
    return (far.settings.size * sum(wear), units_ahead(far.settings, moment))


class WearSeeker:
    """Seeks the first row with which a page has been written so often."""

    def __init__(self, life):
        self._life = life
        # By position: the page there, and how often it has been written.
        self.pages = []
        self._wear = []

    def is_in(self, span):
        """Return whether a page is written so often within a span."""
        known = len(self._wear)
        for position, total in enumerate(span.sums):
            if writes_of(total) + (self._wear[position] if position < known else 0) >= self._life:
                return True
        return False

    def pass_over(self, span):
        """Go to the end of a span."""
        self._reach(len(span.sums))
        for position, total in enumerate(span.sums):
            self._wear[position] += writes_of(total)
        many = len(span.order)
        self.pages = [self.pages[position] for position in span.order] + self.pages[many:]
        self._wear = [self._wear[position] for position in span.order] + self._wear[many:]

    def worn_by(self, events):
        """Note the events of a row, and return the pages that have been written so often with it."""
        worn = []
        for event in events:
            if event[0] in WRITES:
                position = event[1]
                self._reach(position + 1)
                self._wear[position] += 1
                if self._wear[position] == self._life:
                    worn.append(self.pages[position])
        return worn

    def _reach(self, many):
        """Know so many positions at least: pages that were never taken stand behind all others, ascending."""
        self.pages += list(range(len(self.pages), many))
        self._wear += [0] * (many - len(self._wear))


def worn_out(far, life):
    """Return (row, page): the first row with which a page has been written so often, and the least such page."""
    check_far(far)
    check_number_from(life, 1)
    seeker = WearSeeker(life)
    piece = seek(far.counted, seeker)
    if piece is None:
        return None
    state = far.counted.piece_state(piece[0], piece[1])
    while state.done < ROWS:
        worn = seeker.worn_by(do_row(state))
        if worn:
            return (state.done - 1, min(worn))
    return None
