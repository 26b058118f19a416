"""A store at a moment, which page has which role, and what a row does to it."""

from keeprows.nodes import nodes_beyond, tree_over
from keeprows.packing import Packing


class State:
    """Which page has which role behind so many rows."""

    def __init__(self, settings):
        self.settings = settings
        self.packing = Packing(settings)
        self.done = 0
        # The live heap pages are those from first to after - 1.
        self.first = 0
        self.after = 0
        self.heap = {}
        self.nodes = {}
        self.log = []
        self.waiting = []
        # The page that is taken first stands last.
        self.free = []
        self.changed = {}
        self.size = 0
        # The first row of the next heap page, and the row behind the last one of the oldest.
        self.next_begin = 0
        self.oldest_end = self.packing.start_of(1)


def state_behind_checkpoint(settings, moment):
    """Return the state behind a checkpoint, with the pages in use numbered 0, 1, 2 .. and none on the list."""
    state = State(settings)
    if moment == 0:
        return state
    state.done = moment
    state.first = state.packing.page_with(max(0, moment - settings.keep))
    state.after = state.packing.page_with(moment - 1) + 1
    state.next_begin = state.packing.start_of(state.after)
    state.oldest_end = state.packing.start_of(state.first + 1)
    for number in range(state.first, state.after):
        state.heap[number] = len(state.heap)
    for node in tree_over(settings.fanout, state.first, state.after - 1):
        state.nodes[node] = len(state.heap) + len(state.nodes)
    state.size = len(state.heap) + len(state.nodes)
    return state


def pages_in_use(state):
    """Return the pages in use: heap pages, nodes, log pages, and those that wait."""
    return list(state.heap.values()) + [state.nodes[node] for node in sorted(state.nodes)] + state.log + state.waiting


def pages_in_order(state):
    """Return all pages: those in use, then those on the list, the one that is taken first ahead."""
    return pages_in_use(state) + state.free[::-1]


def give_pages(state, pages):
    """Give a state other pages, in the order of pages_in_order; there may be more on the list than it had."""
    used = pages_in_use(state)
    page_for = {used[at]: pages[at] for at in range(len(used))}
    state.heap = {number: page_for[page] for number, page in state.heap.items()}
    state.nodes = {node: page_for[page] for node, page in state.nodes.items()}
    state.log = [page_for[page] for page in state.log]
    state.waiting = [page_for[page] for page in state.waiting]
    state.changed = {page_for[page]: True for page in state.changed}
    state.free = pages[len(used):][::-1]
    state.size = len(pages)


def do_row(state):
    """Do the next row, and return its events in order."""
    events = []
    write_to_log(state, events)
    put_row(state, events)
    expire(state, events)
    state.done += 1
    if state.done % state.settings.every == 0:
        do_checkpoint(state, events)
    return events


def take_page(state, role, events):
    """Take a page for a role, and return it."""
    if state.free:
        page = state.free.pop()
    else:
        page = state.size
        state.size += 1
    events.append(("take", page, role))
    return page


def give_back(state, page, role, events):
    """Give a page back: it waits for the next checkpoint, and is not changed any more."""
    state.changed.pop(page, None)
    state.waiting.append(page)
    events.append(("give", page, role))


def write_to_log(state, events):
    """Write the record of the row to the newest log page."""
    settings = state.settings
    place = state.done % settings.every
    if place % settings.records == 0:
        state.log.append(take_page(state, ("log", place // settings.records), events))
    events.append(("record", state.log[-1], state.done))


def put_row(state, events):
    """Put the row into the newest heap page, which it may begin."""
    if state.done == state.next_begin:
        begin_heap_page(state, events)
    page = state.heap[state.after - 1]
    # So a heap page that has just been taken is changed, too.
    state.changed[page] = True
    events.append(("put", page, state.done))


def begin_heap_page(state, events):
    """Take pages for the next heap page, and for the nodes that begin with it."""
    number = state.after
    state.heap[number] = take_page(state, ("heap", number), events)
    begun = nodes_beyond(state.settings.fanout, state.first, number, state.first, number - 1)
    for level, index in begun:
        page = take_page(state, ("node", level, index), events)
        state.nodes[(level, index)] = page
        state.changed[page] = True
    state.after += 1
    state.next_begin = state.packing.start_of(state.after)
    change_parents(state, number, begun)


def expire(state, events):
    """Let the oldest row go if there are more than are kept, and what ends with it."""
    if state.done - state.settings.keep != state.oldest_end - 1:
        return
    number = state.first
    last = state.after - 1
    give_back(state, state.heap.pop(number), ("heap", number), events)
    ended = nodes_beyond(state.settings.fanout, number, last, number + 1, last)
    for level, index in ended:
        give_back(state, state.nodes.pop((level, index)), ("node", level, index), events)
    state.first += 1
    state.oldest_end = state.packing.start_of(state.first + 1)
    change_parents(state, number, ended)


def change_parents(state, number, nodes):
    """Note as changed the nodes of which a child, a heap page or one of some nodes, has begun or ended."""
    fanout = state.settings.fanout
    parents = [(0, number // fanout)] + [(level + 1, index // fanout) for level, index in nodes]
    for node in parents:
        # What has ended with its children is not changed any more, and the root has no parent.
        if node in state.nodes:
            state.changed[state.nodes[node]] = True


def do_checkpoint(state, events):
    """Write what is changed, and put the pages that wait and the log pages on the list."""
    events += [("write", page) for page in sorted(state.changed)]
    state.changed = {}
    freed = state.waiting + state.log
    events += [("free", page) for page in freed]
    state.free += freed
    state.waiting = []
    state.log = []
