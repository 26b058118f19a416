"""Heights of the tree, and sizes of the file."""

from keeprows.checks import ROWS, check_moment, check_number, is_from
from keeprows.errors import InvalidNumber, LimitExceeded
from keeprows.far import check_far
from keeprows.heights import Heights, border_level
from keeprows.nodes import power
from keeprows.packing import Packing
from keeprows.settings import check_settings
from keeprows.trees import next_border, tree_height

MOST_HEIGHT = 111
MOST_GROWTHS = 20


def check_stretch(first, last):
    """Raise InvalidNumber for what is no moment, or for what is no moment from that one on."""
    check_moment(first)
    check_number(last, first, ROWS)


def height_count(settings, least, first, last):
    """Return for how many n from first to last - 1 the height behind n rows is at least so great."""
    check_settings(settings)
    check_number(least, 1, MOST_HEIGHT)
    check_stretch(first, last)
    if least == 1:
        # It is so for all n but 0.
        return max(1, last) - max(1, first)
    heights = Heights(settings)
    step = power(settings.fanout, least - 1)
    return heights.above(step, last) - heights.above(step, first)


def height_sum(settings, first, last):
    """Return the sum of the heights behind n rows for n from first to last - 1."""
    check_settings(settings)
    check_stretch(first, last)
    heights = Heights(settings)
    return heights.sum_below(last) - heights.sum_below(first)


def next_height(settings, moment, least):
    """Return the least n from a moment on behind which the height is at least so great, None if there is none."""
    check_settings(settings)
    check_moment(moment)
    check_number(least, 1, MOST_HEIGHT)
    if tree_height(settings, moment) >= least:
        return moment
    if least == 1:
        return 1
    border = next_border(settings, moment, least - 1)
    if border is None or settings.keep == 1:
        return None
    return border[0] + 1


def greatest_height(settings, first, last):
    """Return (height, n): the greatest height for n from first to last - 1, and the least such n."""
    check_settings(settings)
    check_stretch(first, last)
    if first == last:
        return None
    height = tree_height(settings, first)
    if settings.keep > 1:
        packing = Packing(settings)
        # The tree becomes higher only behind the first row of a border.
        low = max(1, packing.begun(first))
        level = border_level(settings.fanout, low, packing.begun(last - 1) - 1)
        if level > 0 and level >= height:
            step = power(settings.fanout, level)
            return (level + 1, packing.start_of((low + step - 1) // step * step) + 1)
    if height == 0 and last > 1:
        return (1, 1)
    return (height, first)


def grown(far, size):
    """Return the least n behind which the file has at least so many pages, None if there is none."""
    check_far(far)
    if not is_from(size, 1):
        raise InvalidNumber(size)
    growth = far.growth.told(far.growth.number_with(size))
    if growth is None:
        return None
    return growth[0]


def growths(far, first, last):
    """Return (n, pages) for all n from first + 1 to last for which the file has more pages than behind n - 1 rows."""
    check_far(far)
    check_stretch(first, last)
    found = []
    number = far.growth.number_behind(first)
    while True:
        growth = far.growth.told(number + len(found))
        if growth is None or growth[0] > last:
            return found
        if len(found) == MOST_GROWTHS:
            raise LimitExceeded(MOST_GROWTHS)
        found.append(growth)
