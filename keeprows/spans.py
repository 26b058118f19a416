"""What happens to the pages of a store between two moments, told by positions.

A position tells a place: first the pages in use, in their order, then the free list. The list has no end; but from
some position on a page stays where it is, as no more pages were taken in between.
"""

from keeprows.states import do_row, pages_in_order
from keeprows.turns import KINDS

# What happened to one page stands in one number, with so many bits for each kind: there are at most 10 ** 30 of each.
BITS = 104
MASK = (1 << 104) - 1
# Where two of the kinds stand among KINDS.
RECORD_PART = 3
WRITE_PART = 4


class Span:
    """What happens between two moments to the page at each position ahead.

    order has, for each position behind, the position ahead from which its page comes; further positions stay.
    sums has, for each position ahead, how often what happened to the page there; it is empty if nothing is counted.
    """

    def __init__(self, order, sums):
        self.order = order
        self.sums = sums


def still_span():
    """Return the span in which nothing happens."""
    return Span([], [])


def part_of(total, at):
    """Return how often something of the kind with a number happened to a page."""
    return (total >> (BITS * at)) & MASK


def writes_of(total):
    """Return how often a page was written, by records and at checkpoints."""
    return part_of(total, RECORD_PART) + part_of(total, WRITE_PART)


def kind_of(event):
    """Return the kind of what an event tells; for the taking of a page, as what it is taken."""
    if event[0] == "take":
        return event[2][0]
    return event[0]


def count_events(events, sums):
    """Add events to a dict from pages to what happened to them."""
    for event in events:
        kind = kind_of(event)
        if kind in KINDS:
            sums[event[1]] = sums.get(event[1], 0) + (1 << (BITS * KINDS.index(kind)))


def goal_of(span, position):
    """Return the position behind to which the page at a position ahead comes."""
    if position < len(span.order):
        return span.order.index(position)
    return position


def added(pool, sums, more):
    """Return sums by position ahead, with more of them that are told by the positions behind."""
    if not more:
        return sums
    total = sums + [0] * (len(pool) - len(sums))
    for position, number in enumerate(more):
        total[pool[position]] += number
    return total


def pool_of(first, later):
    """Return the order behind a span, with as many positions at least as a later one has."""
    return first.order + list(range(len(first.order), len(later.order)))


def joined(first, later):
    """Return the span of one span and of a later one that follows it."""
    pool = pool_of(first, later)
    order = [pool[position] for position in later.order] + pool[len(later.order):]
    return Span(order, added(pool, first.sums, later.sums))


def joined_all(parts):
    """Return the span of some spans, one behind the other."""
    span = still_span()
    for part in parts:
        span = joined(span, part)
    return span


def widened(span, place, more):
    """Return the span in which as many more pages are taken ahead of the one at a place, and come back behind it.

    The same happens to them as to that one. The last one that is taken comes back first.
    """
    order = [position if position < place else position + more for position in span.order]
    at = span.order.index(place) + 1
    order = order[:at] + list(range(place + more - 1, place - 1, -1)) + order[at:]
    return Span(order, span.sums[:place] + span.sums[place:place + 1] * more + span.sums[place:])


def narrowed(span, place, fewer):
    """Return the span without so many pages from a place on: what widened undoes."""
    order = [
        position if position < place else position - fewer
        for position in span.order if position < place or position >= place + fewer
    ]
    return Span(order, span.sums[:place] + span.sums[place + fewer:])


def run_spans(state, moments, counted):
    """Do rows from a state on, whose pages are numbered by position: the spans up to each of ascending moments."""
    found = {}
    spans = []
    for moment in moments:
        while state.done < moment:
            events = do_row(state)
            if counted:
                count_events(events, found)
        sums = [found.get(page, 0) for page in range(state.size)] if counted else []
        spans.append(Span(pages_in_order(state), sums))
    return spans
