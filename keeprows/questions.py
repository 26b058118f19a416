"""What a store answers about itself, from its state."""

from keeprows.checks import check_number, is_within
from keeprows.errors import InvalidPage, InvalidRow
from keeprows.nodes import root_level

MOST_FREE = 1000


def heap_list(state):
    """Return the list of (number, page) of the live heap pages."""
    return list(state.heap.items())


def node_list(state):
    """Return the list of (level, number, page) of the nodes, by level and number."""
    return [(level, index, state.nodes[(level, index)]) for level, index in sorted(state.nodes)]


def root_of(state):
    """Return (level, number, page) of the root, None if there is none."""
    if not state.nodes:
        return None
    return node_list(state)[-1]


def free_list(state, count):
    """Return the first so many pages that would be taken if nothing else happened."""
    check_number(count, 0, MOST_FREE)
    missing = max(0, count - len(state.free))
    return state.free[::-1][:count] + list(range(state.size, state.size + missing))


def role_of(state, page):
    """Return the role of a page that has been taken at least once."""
    if not is_within(page, 0, state.size - 1):
        raise InvalidPage(page)
    for number, other in state.heap.items():
        if other == page:
            return ("heap", number)
    for (level, index), other in state.nodes.items():
        if other == page:
            return ("node", level, index)
    if page in state.log:
        return ("log", state.log.index(page))
    if page in state.waiting:
        return ("waiting", state.waiting.index(page))
    return ("free", state.free[::-1].index(page))


def heap_number_of(state, row):
    """Return the number of the heap page of a row that is kept."""
    if not is_within(row, max(0, state.done - state.settings.keep), state.done - 1):
        raise InvalidRow(row)
    return state.packing.page_with(row)


def page_of_row(state, row):
    """Return the page of the heap page of a row that is kept."""
    return state.heap[heap_number_of(state, row)]


def path_of_row(state, row):
    """Return the pages from the root down to the heap page of a row that is kept."""
    index = heap_number_of(state, row)
    pages = [state.heap[index]]
    for level in range(root_level(state.settings.fanout, state.first, state.after - 1) + 1):
        index //= state.settings.fanout
        pages.append(state.nodes[(level, index)])
    return pages[::-1]
