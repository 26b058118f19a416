"""The roles of a page: what it is behind any number of rows, and when it is taken."""

from keeprows.checks import ROWS, check_kind, check_moment, check_number_from, check_page, is_from, is_within
from keeprows.errors import InvalidArgument, InvalidPage
from keeprows.far import check_far
from keeprows.nodes import power
from keeprows.packing import Packing
from keeprows.questions import role_of
from keeprows.times import kinds_for, time_of, times_of
from keeprows.trees import covered, is_node, node_times

# As what a page is taken.
TAKES = ("heap", "node", "log")


def is_role(settings, role):
    """Return whether an object is the role of a page in use that does not wait."""
    if not isinstance(role, tuple) or not role or not isinstance(role[0], str):
        return False
    if role[0] == "node":
        return is_node(settings, role[1:])
    return role[0] in ("heap", "log") and len(role) == 2 and is_from(role[1], 0)


def role_at(far, page, moment):
    """Return the role of a page behind so many rows, None if it was never taken by then."""
    check_far(far)
    check_page(page)
    check_moment(moment)
    state = far.course.state_behind(moment)
    if page >= state.size:
        return None
    return role_of(state, page)


def page_with(far, role, moment):
    """Return the page that has a role behind so many rows, None if no page has it."""
    check_far(far)
    if not is_role(far.settings, role):
        raise InvalidArgument("role")
    check_moment(moment)
    state = far.course.state_behind(moment)
    if role[0] == "heap":
        return state.heap.get(role[1])
    if role[0] == "node":
        return state.nodes.get(role[1:])
    if role[1] < len(state.log):
        return state.log[role[1]]
    return None


def takes(far, page, moment, *, kind=None):
    """Return how often a page has been taken behind so many rows, for all roles or for those of a kind."""
    check_far(far)
    check_page(page)
    check_moment(moment)
    check_kind(kind, TAKES)
    return times_of(far, page, moment, kinds_for(kind, TAKES))


def taking(far, page, number, kinds):
    """Return (row, role) for the time with a number that a page is taken, None if there are not so many."""
    found = time_of(far, page, number, kinds)
    if found is None:
        return None
    return (found[0], found[1][2])


def taken(far, page, number, *, kind=None):
    """Return (row, role) for the time with a number that a page is taken, for all roles or for those of a kind."""
    check_far(far)
    check_page(page)
    check_number_from(number, 0)
    check_kind(kind, TAKES)
    return taking(far, page, number, kinds_for(kind, TAKES))


def last_taken(far, page, moment):
    """Return (row, role) for the last row ahead of row number moment with which a page is taken, or None."""
    number = takes(far, page, moment)
    if number == 0:
        return None
    return taking(far, page, number - 1, TAKES)


def next_taken(far, page, moment):
    """Return (row, role) for the first row from row number moment on with which a page is taken, or None."""
    return taking(far, page, takes(far, page, moment), TAKES)


def node_end(settings, node, row):
    """Return with which row a node is given back that is taken with a row."""
    packing = Packing(settings)
    first, after = covered(settings, node)
    if node[0] == 0:
        return packing.start_of(after) - 1 + settings.keep
    end = row + settings.keep - 1
    # It stays if its next border begins ahead of its end, or with the very row of it.
    for page in range(first, after + 1, power(settings.fanout, node[0])):
        start = packing.start_of(page)
        if row < start <= end:
            end = start + settings.keep - 1
    return end


def next_checkpoint(settings, row):
    """Return with which row, from a row on, the next checkpoint comes."""
    return (row // settings.every + 1) * settings.every - 1


def stages(settings, row, role):
    """Return what a page is that is taken with a row: (role, with which row this ends), one behind the other."""
    if role[0] == "log":
        return [(role, next_checkpoint(settings, row))]
    if role[0] == "heap":
        given = Packing(settings).start_of(role[1] + 1) - 1 + settings.keep
    else:
        given = node_end(settings, role[1:], row)
    return [(role, given), (("waiting",), next_checkpoint(settings, given))]


def role_span(far, page, moment):
    """Return (role, first, after): the role of a page behind so many rows, and for how long it has it."""
    number = takes(far, page, moment)
    later = taking(far, page, number, TAKES)
    after = None if later is None else later[0] + 1
    if number == 0:
        return (None, 0, after)
    row, role = taking(far, page, number - 1, TAKES)
    first = row + 1
    for told, end in stages(far.settings, row, role):
        if moment <= end:
            return (told, first, None if end >= ROWS else end + 1)
        first = end + 1
    return (("free",), first, after)


def home(far, number):
    """Return the page of a heap page, which it has as long as it is live."""
    check_far(far)
    packing = far.course.packing
    if not is_within(number, 0, packing.page_with(ROWS - 1)):
        raise InvalidPage(number)
    return far.course.state_behind(packing.start_of(number) + 1).heap[number]


def homes(far, node):
    """Return (first, after, page) for each time that a node is in the tree, with its page then."""
    check_far(far)
    # This one raises the error for what is no node.
    times = node_times(far.settings, node)
    return [(first, after, far.course.state_behind(first).nodes[node]) for first, after in times]
