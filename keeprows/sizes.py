"""Heights of the tree, and sizes of the file."""

from keeprows.checks import ROWS, check_moment, check_number, is_from
from keeprows.courses import zeros_of
from keeprows.errors import InvalidArgument, InvalidNumber, LimitExceeded
from keeprows.far import Far
from keeprows.heights import Heights, border_level
from keeprows.nodes import power
from keeprows.packing import Packing
from keeprows.settings import check_settings
from keeprows.states import do_row
from keeprows.trees import next_border, tree_height

MOST_HEIGHT = 111
MOST_GROWTHS = 20


def check_stretch(first, last):
    """Raise InvalidNumber for what is no moment, or for what is no moment from that one on."""
    check_moment(first)
    check_number(last, first, ROWS)


def check_far(far):
    """Raise InvalidArgument for what is no Far."""
    if not isinstance(far, Far):
        raise InvalidArgument("far")


def height_count(settings, least, first, last):
    """Return for how many n from first to last - 1 the height behind n rows is at least so great."""
    check_settings(settings)
    check_number(least, 1, MOST_HEIGHT)
    check_stretch(first, last)
    if least == 1:
        # It is so for all n but 0.
        return max(1, last) - max(1, first)
    heights = Heights(settings)
    step = power(settings.fanout, least - 1)
    return heights.above(step, last) - heights.above(step, first)


def height_sum(settings, first, last):
    """Return the sum of the heights behind n rows for n from first to last - 1."""
    check_settings(settings)
    check_stretch(first, last)
    heights = Heights(settings)
    return heights.sum_below(last) - heights.sum_below(first)


def next_height(settings, moment, least):
    """Return the least n from a moment on behind which the height is at least so great, None if there is none."""
    check_settings(settings)
    check_moment(moment)
    check_number(least, 1, MOST_HEIGHT)
    if tree_height(settings, moment) >= least:
        return moment
    if least == 1:
        return 1
    border = next_border(settings, moment, least - 1)
    if border is None or settings.keep == 1:
        return None
    return border[0] + 1


def greatest_height(settings, first, last):
    """Return (height, n): the greatest height for n from first to last - 1, and the least such n."""
    check_settings(settings)
    check_stretch(first, last)
    if first == last:
        return None
    height = tree_height(settings, first)
    if settings.keep > 1:
        packing = Packing(settings)
        # The tree becomes higher only behind the first row of a border.
        low = max(1, packing.begun(first))
        level = border_level(settings.fanout, low, packing.begun(last - 1) - 1)
        if level > 0 and level >= height:
            step = power(settings.fanout, level)
            return (level + 1, packing.start_of((low + step - 1) // step * step) + 1)
    if height == 0 and last > 1:
        return (1, 1)
    return (height, first)


def block_with(course, size):
    """Return the first block in which the file grows to so many pages, None if there is none."""
    block = course.first_block
    while course.begin_of(block) < ROWS:
        if len(course.block_span(block).order) >= size:
            return block
        zeros = zeros_of(course.fanout, block)
        while len(course.inner_span(block, zeros).order) >= size:
            zeros -= 1
        block += power(course.fanout, zeros)
    return None


def state_ahead_of(course, size):
    """Return a state, not far ahead of the moment behind which the file has so many pages first.

    None stands for such a state if there is no such moment.
    """
    near = [len(span.order) for span in course.near_spans()]
    if near[-1] >= size:
        return course.near_state(len([pages for pages in near if pages < size]) - 1)
    block = block_with(course, size)
    if block is None:
        return None
    return course.state_at(block)


def moment_with(course, size):
    """Return the least moment behind which the file has so many pages, None if there is none."""
    state = state_ahead_of(course, size)
    if state is None:
        return None
    while state.size < size and state.done < ROWS:
        do_row(state)
    if state.size < size:
        return None
    return state.done


def grown(far, size):
    """Return the least n behind which the file has at least so many pages, None if there is none."""
    check_far(far)
    if not is_from(size, 1):
        raise InvalidNumber(size)
    return moment_with(far.course, size)


def growths(far, first, last):
    """Return (n, pages) for all n from first + 1 to last for which the file has more pages than behind n - 1 rows."""
    check_far(far)
    check_stretch(first, last)
    found = []
    size = far.behind(first).file_size()
    while True:
        moment = moment_with(far.course, size + 1)
        if moment is None or moment > last:
            return found
        if len(found) == MOST_GROWTHS:
            raise LimitExceeded(MOST_GROWTHS)
        size = far.behind(moment).file_size()
        found.append((moment, size))
