"""What happens to the pages of a store between two moments, told by positions.

A position tells a place: first the pages in use, in their order, then the free list. The list has no end; but from
some position on a page stays where it is, as no more pages were taken in between.
"""

from keeprows.states import do_row, pages_in_order


class Span:
    """What happens between two moments to the page at each position ahead.

    order has, for each position behind, the position ahead from which its page comes; further positions stay.
    tallies has for each kind that is counted how often this happened to the page at each position ahead.
    """

    def __init__(self, order, tallies):
        self.order = order
        self.tallies = tallies


def still_span(kinds):
    """Return the span in which nothing happens."""
    return Span([], [[] for _ in kinds])


def added(pool, sums, more):
    """Return sums by position ahead, with more of them that are told by the positions behind."""
    total = sums + [0] * (len(pool) - len(sums))
    for position, number in enumerate(more):
        total[pool[position]] += number
    return total


def joined(first, later):
    """Return the span of one span and of a later one that follows it."""
    pool = first.order + list(range(len(first.order), len(later.order)))
    order = [pool[position] for position in later.order] + pool[len(later.order):]
    tallies = [added(pool, first.tallies[at], later.tallies[at]) for at in range(len(first.tallies))]
    return Span(order, tallies)


def count_events(events, sums):
    """Add events to dicts from kinds to dicts from pages to numbers."""
    for event in events:
        kind = event[0]
        if kind == "take":
            kind = event[2][0]
        if kind in sums:
            sums[kind][event[1]] = sums[kind].get(event[1], 0) + 1


def run_spans(state, moments, kinds):
    """Do rows from a state on, whose pages are numbered by position: the spans up to each of ascending moments."""
    sums = {kind: {} for kind in kinds}
    spans = []
    for moment in moments:
        while state.done < moment:
            events = do_row(state)
            if kinds:
                count_events(events, sums)
        tallies = [[sums[kind].get(page, 0) for page in range(state.size)] for kind in kinds]
        spans.append(Span(pages_in_order(state), tallies))
    return spans
