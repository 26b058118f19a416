"""Phases and blocks: when packing and checkpoints come again, and in which groups heap pages are told."""

from math import gcd

from keeprows.errors import LimitExceeded
from keeprows.packing import Packing
from keeprows.settings import check_settings

MOST_PHASES = 16
MOST_PAGES = 128


def find_phases(settings):
    """Return (number of phases, number of their rows), however many these are."""
    _, pages, rows = Packing(settings).cycle()
    rounds = settings.every // gcd(settings.every, rows)
    return (pages * rounds, rows * rounds)


def find_window(settings):
    """Return (live, begun): the most heap pages among keep + 1 rows, and the most that begin within every rows."""
    packing = Packing(settings)
    first, pages, _ = packing.cycle()
    live = 0
    begun = 0
    for page in range(first, first + pages):
        start = packing.start_of(page)
        # The most heap pages have rows behind the last row of one, and begin behind the first row of one.
        last = packing.start_of(page + 1) - 1
        live = max(live, packing.page_with(last + settings.keep) - page + 1)
        begun = max(begun, packing.page_with(start + settings.every - 1) - page + 1)
    return (live, begun)


def find_width(settings):
    """Return how many heap pages a block has, however many these are."""
    live, begun = find_window(settings)
    width = 1
    while width < live + begun + 1:
        width *= settings.fanout
    return width


def check_limits(settings):
    """Raise the errors of what is no Settings, of too many phases, and of too great blocks."""
    check_settings(settings)
    if find_phases(settings)[0] > MOST_PHASES:
        raise LimitExceeded(MOST_PHASES)
    if find_width(settings) > MOST_PAGES:
        raise LimitExceeded(MOST_PAGES)


def phases(settings):
    """Return (number of phases, number of their rows)."""
    check_limits(settings)
    return find_phases(settings)


def window(settings):
    """Return (live, begun): the most heap pages among keep + 1 rows, and the most that begin within every rows."""
    check_limits(settings)
    return find_window(settings)


def blocks(settings):
    """Return (heap pages of a block, number of the first block)."""
    check_limits(settings)
    packing = Packing(settings)
    width = find_width(settings)
    live, begun = find_window(settings)
    least = packing.cycle()[0] + live + begun + 1
    block = 1
    while block * width < least or packing.start_of(block * width) < settings.keep + settings.every:
        block += 1
    return (width, block)
