"""Stores compared: from which row on they part, and whose file is larger or smaller."""

from math import lcm

from keeprows.checks import ROWS, check_moment, check_number
from keeprows.errors import InvalidArgument, LimitExceeded
from keeprows.far import Far
from keeprows.packing import Packing
from keeprows.settings import check_settings
from keeprows.states import State, do_row

MOST_FARS = 6
MOST_POINTS = 20


def begin_alike(one, other):
    """Return whether all heap pages of two settings begin with the same rows."""
    first = Packing(one)
    second = Packing(other)
    early, pages, _ = first.cycle()
    other_early, other_pages, _ = second.cycle()
    # From then on, both come again behind so many heap pages.
    many = max(early, other_early) + lcm(pages, other_pages)
    return all([first.start_of(page) == second.start_of(page) for page in range(many + 1)])


def stay_alike(one, other):
    """Return whether the stores of two settings never part."""
    if one.fanout != other.fanout or one.keep != other.keep or one.every != other.every:
        return False
    # Where a log page holds the records of a whole period, it does not matter how many more it could hold.
    if min(one.records, one.every) != min(other.records, other.every):
        return False
    return begin_alike(one, other)


def first_parting(one, other):
    """Return the first row whose events are not the same in the stores of two settings, None if there is none."""
    check_settings(one)
    check_settings(other)
    if stay_alike(one, other):
        return None
    first = State(one)
    second = State(other)
    while do_row(first) == do_row(second):
        pass
    return first.done - 1


def next_larger(one, other, moment):
    """Return the least n from a moment on behind which one file is larger than the other, None if there is none."""
    if not isinstance(one, Far):
        raise InvalidArgument("one")
    if not isinstance(other, Far):
        raise InvalidArgument("other")
    check_moment(moment)
    while True:
        pages = other.growth.pages_behind(moment)
        if one.growth.pages_behind(moment) > pages:
            return moment
        # Until then the first file is too small, however the second one grows.
        growth = one.growth.told(one.growth.number_with(pages + 1))
        if growth is None:
            return None
        moment = growth[0]


def check_fars(fars):
    """Raise InvalidArgument for what is no list of one to six Far."""
    if not isinstance(fars, list) or not 1 <= len(fars) <= MOST_FARS:
        raise InvalidArgument("fars")
    if not all([isinstance(far, Far) for far in fars]):
        raise InvalidArgument("fars")


def least_of(fars, moment):
    """Return the indexes of the stores whose files have the fewest pages behind so many rows."""
    sizes = [far.growth.pages_behind(moment) for far in fars]
    return [at for at, size in enumerate(sizes) if size == min(sizes)]


def least_files(fars, moment):
    """Return the indexes of the stores of a list whose files have the fewest pages behind so many rows, ascending."""
    check_fars(fars)
    check_moment(moment)
    return least_of(fars, moment)


def next_growth(fars, moment):
    """Return the least n behind a moment with which one of some files grows, None if there is none."""
    growths = [far.growth.told(far.growth.number_behind(moment)) for far in fars]
    return min([growth[0] for growth in growths if growth is not None], default=None)


def turning_points(fars, first, last):
    """Return (n, indexes) for first, and for each n up to last for which other files are the least than for n - 1."""
    check_fars(fars)
    check_moment(first)
    check_number(last, first, ROWS)
    found = [(first, least_of(fars, first))]
    moment = next_growth(fars, first)
    while moment is not None and moment <= last:
        least = least_of(fars, moment)
        if least != found[-1][1]:
            if len(found) == MOST_POINTS:
                raise LimitExceeded(MOST_POINTS)
            found.append((moment, least))
        moment = next_growth(fars, moment)
    return found
