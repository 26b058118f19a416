"""Copies of the tree, and the changes that lead from one to another."""

from keeprows.checks import check_moment, is_from
from keeprows.errors import InvalidArgument, InvalidPage
from keeprows.settings import check_settings


def children_of(state, level, index):
    """Return the tuple of (child, page) of a node, ascending."""
    fanout = state.settings.fanout
    children = range(index * fanout, index * fanout + fanout)
    if level == 0:
        return tuple([(child, state.heap[child]) for child in children if child in state.heap])
    found = [(child, state.nodes[(level - 1, child)]) for child in children if (level - 1, child) in state.nodes]
    return tuple(found)


def contents_of(state):
    """Return the dict from the pages of the tree to their contents."""
    contents = {}
    for number, page in state.heap.items():
        after = min(state.packing.start_of(number + 1), state.done)
        contents[page] = ("heap", number, state.packing.start_of(number), after)
    for (level, index), page in state.nodes.items():
        contents[page] = ("node", level, index, children_of(state, level, index))
    return contents


def contents_behind(far, moment):
    """Return the dict from the pages of the tree behind so many rows to their contents."""
    check_moment(moment)
    return contents_of(far.course.state_behind(moment))


def are_numbers(told):
    """Return whether all of some objects are integers from 0 on."""
    return all([is_from(number, 0) for number in told])


def is_content(told):
    """Return whether an object has the form of a content."""
    if not isinstance(told, tuple) or len(told) != 4 or not isinstance(told[0], str):
        return False
    if told[0] == "heap":
        return are_numbers(told[1:])
    if told[0] != "node" or not are_numbers(told[1:3]) or not isinstance(told[3], tuple):
        return False
    return all([isinstance(child, tuple) and len(child) == 2 and are_numbers(child) for child in told[3]])


def check_contents(contents):
    """Raise InvalidArgument for what is no dict from pages to contents."""
    if not isinstance(contents, dict) or not are_numbers(contents):
        raise InvalidArgument("contents")
    if not all([is_content(told) for told in contents.values()]):
        raise InvalidArgument("contents")


def in_order(contents):
    """Return a dict like this one, with its pages ascending."""
    return {page: contents[page] for page in sorted(contents)}


class Copy:
    """The contents of all pages of the tree behind a number of rows."""

    def __init__(self, settings, moment, contents):
        check_settings(settings)
        check_moment(moment)
        check_contents(contents)
        self.settings = settings
        self.done = moment
        self.contents = in_order(contents)

    def __eq__(self, other):
        return (
            isinstance(other, Copy)
            and self.settings == other.settings
            and self.done == other.done
            and self.contents == other.contents
        )


class Change:
    """What leads from the copy behind one number of rows to the copy behind another one."""

    def __init__(self, settings, start, goal, contents, gone):
        check_settings(settings)
        check_moment(start)
        check_moment(goal)
        check_contents(contents)
        if not isinstance(gone, list) or not are_numbers(gone):
            raise InvalidArgument("gone")
        self.settings = settings
        self.from_done = start
        self.to_done = goal
        self.contents = in_order(contents)
        self.gone = sorted(set(gone))

    def __eq__(self, other):
        return (
            isinstance(other, Change)
            and self.settings == other.settings
            and self.from_done == other.from_done
            and self.to_done == other.to_done
            and self.contents == other.contents
            and self.gone == other.gone
        )


def content(far, moment, page):
    """Return the content of a page behind so many rows, None for a page without one."""
    contents = contents_behind(far, moment)
    if not is_from(page, 0):
        raise InvalidPage(page)
    return contents.get(page)


def copy_at(far, moment):
    """Return the Copy of the tree behind so many rows."""
    return Copy(far.settings, moment, contents_behind(far, moment))


def root_page(copy):
    """Return the page of the node of the greatest level, of several the greatest one; None if there is no node."""
    nodes = [(told[1], page) for page, told in copy.contents.items() if told[0] == "node"]
    if not nodes:
        return None
    return max(nodes)[1]


def reached_pages(copy):
    """Return the pages of a copy to which a way leads from its root page, each once."""
    root = root_page(copy)
    if root is None:
        return []
    pages = [root]
    seen = {root: True}
    at = 0
    while at < len(pages):
        told = copy.contents[pages[at]]
        if told[0] == "node":
            for _, page in told[3]:
                if page in copy.contents and page not in seen:
                    seen[page] = True
                    pages.append(page)
        at += 1
    return pages


def rows_in(copy):
    """Return those of the newest rows that are in heap pages to which a way leads from the root page, ascending."""
    oldest = max(0, copy.done - copy.settings.keep)
    found = {}
    for page in reached_pages(copy):
        told = copy.contents[page]
        if told[0] == "heap":
            for row in range(max(told[2], oldest), min(told[3], copy.done)):
                found[row] = True
    return sorted(found)


def change(far, one, other):
    """Return the Change from behind one number of rows to behind another one."""
    check_moment(one)
    check_moment(other)
    before = contents_behind(far, one)
    behind = contents_behind(far, other)
    new = {page: behind[page] for page in behind if before.get(page) != behind[page]}
    return Change(far.settings, one, other, new, [page for page in before if page not in behind])


def check_change(copy, given):
    """Raise InvalidArgument for a Change that does not begin with a copy."""
    if not isinstance(copy, Copy) or not isinstance(given, Change):
        raise InvalidArgument("change")
    if copy.settings != given.settings or copy.done != given.from_done:
        raise InvalidArgument("change")


def changed_by(copy, given):
    """Return the Copy to which a Change leads."""
    check_change(copy, given)
    contents = {page: told for page, told in copy.contents.items() if page not in given.gone}
    contents.update(given.contents)
    return Copy(given.settings, given.to_done, contents)


def both(one, other):
    """Return the Change that leads where two of them lead, one after the other."""
    if not isinstance(one, Change) or not isinstance(other, Change):
        raise InvalidArgument("change")
    if one.settings != other.settings or one.to_done != other.from_done:
        raise InvalidArgument("change")
    contents = {page: told for page, told in one.contents.items() if page not in other.gone}
    contents.update(other.contents)
    gone = other.gone + [page for page in one.gone if page not in other.contents]
    return Change(one.settings, one.from_done, other.to_done, contents, gone)


def lessened(copy, given):
    """Return a Change without the contents that a copy has already, and without gone pages that it has not."""
    check_change(copy, given)
    new = {page: told for page, told in given.contents.items() if copy.contents.get(page) != told}
    gone = [page for page in given.gone if page in copy.contents]
    return Change(given.settings, given.from_done, given.to_done, new, gone)
