"""Scans: in which order pages are read, and how far they lie apart."""

from keeprows.checks import ROWS, check_moment, is_from, is_within
from keeprows.courses import parts_between
from keeprows.errors import InvalidArgument, InvalidPage, InvalidRow
from keeprows.far import check_far
from keeprows.nodes import root_level
from keeprows.searches import seek_from
from keeprows.states import do_row


def jumps_in(pages):
    """Return (jumps, distance) of a list of pages."""
    jumps_found = 0
    distance = 0
    for at in range(len(pages) - 1):
        if pages[at + 1] != pages[at] + 1:
            jumps_found += 1
        distance += abs(pages[at + 1] - pages[at])
    return (jumps_found, distance)


def jumps(pages):
    """Return (jumps, distance) of a list of pages."""
    if not isinstance(pages, list) or not all([is_from(page, 0) for page in pages]):
        raise InvalidArgument("pages")
    return jumps_in(pages)


def straight_in(part, pages):
    """Return how many links of a part lead to the next page; pages has the pages by position."""
    straight = len([one for one, other in part.pairs if pages[other] == pages[one] + 1])
    mask = (1 << part.bits) - 1
    position_of = {page: position for position, page in enumerate(pages[:len(part.rows)])}
    for one, row in enumerate(part.rows):
        other = position_of.get(pages[one] + 1)
        if other is not None:
            straight += (row >> (part.bits * other)) & mask
    return straight


def descent_in(part, pages):
    """Return the sum of the distances of those links of a part that lead to lower pages."""
    descent = sum([max(0, pages[one] - pages[other]) for one, other in part.pairs])
    if not part.rows:
        return descent
    # A link counts once for each step between two pages over which it leads down, all links at once.
    mask = (1 << part.bits) - 1
    above = part.total
    below = 0
    crossing = 0
    places = sorted([(pages[position], position) for position in range(len(part.rows))])
    for at in range(len(places) - 1):
        page, one = places[at]
        above -= part.rows[one]
        below |= mask << (part.bits * one)
        crossing += (above & below) * (places[at + 1][0] - page)
    # What is left when the greatest number of so many bits is divided out is the sum of all of them.
    return descent + crossing % mask


def pages_behind(part, pages):
    """Return the pages by position behind a part."""
    known = pages + list(range(len(pages), len(part.order)))
    return [known[position] for position in part.order] + known[len(part.order):]


def pages_on_ways(state, low, high):
    """Return the pages of the nodes above the heap pages from low to high, each once, and of these, in their order."""
    fanout = state.settings.fanout
    pages = []
    read = {}
    for number in range(low, high + 1):
        way = [state.heap[number]]
        index = number
        for level in range(root_level(fanout, state.first, state.after - 1) + 1):
            index //= fanout
            if (level, index) not in read:
                read[(level, index)] = True
                way.append(state.nodes[(level, index)])
        pages += way[::-1]
    return pages


class StraightSeeker:
    """Seeks the first heap page that stands on the page behind that of the heap page ahead of it."""

    def __init__(self, pages):
        self.pages = pages

    def is_in(self, part):
        """Return whether there is one in a part."""
        self._reach(part)
        return straight_in(part, self.pages) > 0

    def pass_over(self, part):
        """Go to the end of a part."""
        self.pages = pages_behind(part, self.pages)

    def _reach(self, part):
        """Know as many pages as the part has positions: further ones are never taken, and stand ascending."""
        self.pages = self.pages + list(range(len(self.pages), len(part.order)))


class Scans:
    """The order in which the pages of a store are read."""

    def __init__(self, far):
        check_far(far)
        self._far = far
        self._last = far.course.packing.page_with(ROWS - 1)

    def row_scan(self, moment):
        """Return the pages of the live heap pages, in the order of their rows."""
        return [page for _, page in self._far.behind(moment).heap_pages()]

    def index_scan(self, moment, first, last):
        """Return the pages that are read if the rows from first to last are read by the index."""
        check_moment(moment)
        oldest = max(0, moment - self._far.settings.keep)
        if not is_within(first, oldest, moment - 1):
            raise InvalidRow(first)
        if not is_within(last, first, moment - 1):
            raise InvalidRow(last)
        state = self._far.course.state_behind(moment)
        return pages_on_ways(state, state.packing.page_with(first), state.packing.page_with(last))

    def jump_sum(self, first, last):
        """Return (jumps, distance) of the pages of the heap pages from first to last, each as long as it is live."""
        self._check_page(first, 0)
        self._check_page(last, first)
        width = self._far.course.width
        begin = max(self._far.course.first_block, first // width + 1)
        end = last // width
        if begin >= end:
            return jumps_in(self._homes(first, last))
        head = self._homes(first, begin * width - 1)
        rest = self._homes(end * width - 1, last)
        found, distance = self._jumps_between(begin, end)
        # Ways up and ways down differ by the way from the first page to the last one.
        distance = 2 * distance + rest[0] - head[-1]
        for pages in [head, rest]:
            more, length = jumps_in(pages)
            found += more
            distance += length
        return (found, distance)

    def next_straight(self, first):
        """Return the least number from first on of a heap page behind whose page the next one stands, or None."""
        self._check_page(first, 0)
        course = self._far.course
        block = max(course.first_block, first // course.width + 1)
        pages = self._homes(first, min(self._last, block * course.width - 1))
        for at in range(len(pages) - 1):
            if pages[at + 1] == pages[at] + 1:
                return first + at
        if first + len(pages) - 1 == self._last:
            return None
        seeker = StraightSeeker(course.span_to(block).order)
        piece = seek_from(self._far.links, seeker, block, 0)
        if piece is None:
            return None
        number = self._straight_number(piece[0], piece[1], seeker.pages)
        return number if number < self._last else None

    def _check_page(self, page, least):
        if not is_within(page, least, self._last):
            raise InvalidPage(page)

    def _homes(self, first, last):
        """Return the pages of the heap pages from first to last, not too many."""
        packing = self._far.course.packing
        state = self._far.course.state_behind(packing.start_of(first) + 1)
        pages = [state.heap[first]]
        while state.after <= last:
            do_row(state)
            if state.after > first + len(pages):
                pages.append(state.heap[state.after - 1])
        return pages

    def _jumps_between(self, begin, end):
        """Return (jumps, descent) of the heap pages of some blocks, with the way to the first of them."""
        course = self._far.course
        pages = course.span_to(begin).order
        found = (end - begin) * course.width
        descent = 0
        for part in parts_between(self._far.links, begin, end):
            pages = pages + list(range(len(pages), len(part.order)))
            found -= straight_in(part, pages)
            descent += descent_in(part, pages)
            pages = pages_behind(part, pages)
        return (found, descent)

    def _straight_number(self, block, at, pages):
        """Return the number of the heap page ahead of the first straight link of a piece of a block."""
        links = self._far.links
        ahead = links.start_span(block).pairs
        pairs = ahead if at == 0 else links.rest_spans(block)[1].pairs
        many = 0 if at == 0 else len(ahead)
        for one, other in pairs:
            if pages[other] == pages[one] + 1:
                break
            many += 1
        return block * self._far.course.width - 1 + many
