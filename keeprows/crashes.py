"""Crashes and recovery: what is on the disk when the machine stops, and the store that is made of it."""

from keeprows.checks import ROWS, check_moment, check_number, is_from, is_within
from keeprows.errors import InvalidArgument, InvalidPage
from keeprows.questions import heap_list, node_list
from keeprows.settings import check_settings
from keeprows.states import do_row, give_pages, state_behind_checkpoint
from keeprows.stores import Book


def are_tuples(told, many):
    """Return whether an object is a list of tuples of so many integers from 0 on."""
    if not isinstance(told, list):
        return False
    for part in told:
        if not isinstance(part, tuple) or len(part) != many or not all([is_from(number, 0) for number in part]):
            return False
    return True


def is_picture(settings, picture):
    """Return whether an object is a tuple of the five parts of a picture."""
    if not isinstance(picture, tuple) or len(picture) != 5:
        return False
    moment, heap, nodes, free, size = picture
    if not is_within(moment, 0, ROWS) or moment % settings.every != 0:
        return False
    if not are_tuples(heap, 2) or not are_tuples(nodes, 3):
        return False
    return isinstance(free, list) and all([is_from(page, 0) for page in free]) and is_from(size, 0)


def are_records(settings, moment, records):
    """Return whether an object is a list of records of the rows from a checkpoint on."""
    if not are_tuples(records, 2) or len(records) >= settings.every or moment + len(records) > ROWS:
        return False
    return [row for row, _ in records] == list(range(moment, moment + len(records)))


class Disk:
    """What is on the disk: the picture of the last checkpoint, and the records of the rows since."""

    def __init__(self, settings, picture, records):
        check_settings(settings)
        if not is_picture(settings, picture):
            raise InvalidArgument("picture")
        moment, heap, nodes, free, size = picture
        if not are_records(settings, moment, records):
            raise InvalidArgument("records")
        self.settings = settings
        self.picture = (moment, list(heap), list(nodes), list(free), size)
        self.records = list(records)

    def __eq__(self, other):
        return (
            isinstance(other, Disk)
            and self.settings == other.settings
            and self.picture == other.picture
            and self.records == other.records
        )


def picture_state(far, moment):
    """Return the state behind the last checkpoint up to a moment."""
    check_moment(moment)
    return far.course.state_behind(moment - moment % far.settings.every)


def disk(far, moment):
    """Return the Disk behind so many rows."""
    state = picture_state(far, moment)
    picture = (state.done, heap_list(state), node_list(state), state.free[::-1], state.size)
    return Disk(far.settings, picture, [(row, far.settings.length_of(row)) for row in range(state.done, moment)])


def is_whole(given):
    """Return whether a Disk can be gone on from."""
    if not isinstance(given, Disk):
        return False
    moment, heap, nodes, free, size = given.picture
    state = state_behind_checkpoint(given.settings, moment)
    if [number for number, _ in heap] != list(state.heap):
        return False
    if [(level, number) for level, number, _ in nodes] != sorted(state.nodes):
        return False
    if [length for _, length in given.records] != [given.settings.length_of(row) for row, _ in given.records]:
        return False
    pages = [page for _, page in heap] + [page for _, _, page in nodes] + free
    # A size may be any number: so nothing is made of so many items.
    return len(pages) == size and sorted(pages) == list(range(len(pages)))


def go_on(given):
    """Return (state, events): the state behind the rows of a disk, and the events of its records."""
    if not is_whole(given):
        raise InvalidArgument("disk")
    moment, heap, nodes, free, _ = given.picture
    state = state_behind_checkpoint(given.settings, moment)
    give_pages(state, [page for _, page in heap] + [page for _, _, page in nodes] + free)
    events = []
    for _ in given.records:
        events += do_row(state)
    return (state, events)


def recovered(given):
    """Return the Book of the store that is made of a disk."""
    return Book(go_on(given)[0])


def redone(given):
    """Return the events of the rows whose records are on a disk, but the records themselves."""
    return [event for event in go_on(given)[1] if event[0] != "record"]


def cut_off(given, count):
    """Return the Disk without so many of its newest records."""
    check_number(count, 0, len(given.records))
    return Disk(given.settings, given.picture, given.records[:len(given.records) - count])


def overwritten(far, moment):
    """Return the pages that have been written since the picture behind so many rows, ascending."""
    return sorted(far.behind(moment).log_pages())


def needed_until(far, moment, page):
    """Return behind how many rows the disk has a page of its picture no more as it was; None if it stays so."""
    state = picture_state(far, moment)
    if not is_from(page, 0) or not is_in_tree(state, page):
        raise InvalidPage(page)
    every = far.settings.every
    while state.done + every <= ROWS:
        written = []
        for _ in range(every):
            written = do_row(state)
        if ("write", page) in written or not is_in_tree(state, page):
            return state.done
    return None


def is_in_tree(state, page):
    """Return whether a page is a heap page or a node."""
    return page in list(state.heap.values()) or page in list(state.nodes.values())
