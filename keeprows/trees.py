"""The tree over the live heap pages: its nodes, ways and times, near and far alike."""

from keeprows.checks import ROWS, check_moment, check_number, check_row, is_from, is_within
from keeprows.errors import InvalidArgument, InvalidPage, InvalidRow
from keeprows.nodes import nodes_beyond, power, root_level, tree_over, width_of
from keeprows.packing import Packing
from keeprows.settings import check_settings

MOST_LEVEL = 110


def is_node(settings, node):
    """Return whether an object is a node."""
    if not isinstance(node, tuple) or len(node) != 2:
        return False
    level, index = node
    if not is_within(level, 0, MOST_LEVEL) or not is_from(index, 0):
        return False
    return index * width_of(settings.fanout, level) <= ROWS


def check_node(settings, node):
    """Raise InvalidArgument for what is no node."""
    if not is_node(settings, node):
        raise InvalidArgument("node")


def check_tree_node(settings, moment, node):
    """Raise InvalidArgument for what is no node of the tree behind so many rows."""
    check_node(settings, node)
    first, after = live_pages(settings, moment)
    if first == after or node[0] > root_level(settings.fanout, first, after - 1):
        raise InvalidArgument("node")
    width = width_of(settings.fanout, node[0])
    if not first // width <= node[1] <= (after - 1) // width:
        raise InvalidArgument("node")


def live_pages(settings, moment):
    """Return (first, after): the live heap pages are those from first to after - 1."""
    check_settings(settings)
    check_moment(moment)
    if moment == 0:
        return (0, 0)
    packing = Packing(settings)
    return (packing.page_with(max(0, moment - settings.keep)), packing.page_with(moment - 1) + 1)


def next_border(settings, moment, level):
    """Return (row, page): the first row from number moment on with which a border begins, and this page."""
    check_settings(settings)
    check_moment(moment)
    check_number(level, 0, MOST_LEVEL)
    packing = Packing(settings)
    step = power(settings.fanout, level)
    least = max(1, packing.begun(moment))
    page = (least + step - 1) // step * step
    row = packing.start_of(page)
    if row >= ROWS:
        return None
    return (row, page)


def covered(settings, node):
    """Return (first, after): a node covers the heap pages from first to after - 1."""
    check_settings(settings)
    check_node(settings, node)
    level, index = node
    width = width_of(settings.fanout, level)
    return (index * width, (index + 1) * width)


def node_over(settings, page, level):
    """Return the node of a level that covers a heap page."""
    check_settings(settings)
    if not is_within(page, 0, ROWS):
        raise InvalidPage(page)
    check_number(level, 0, MOST_LEVEL)
    return (level, page // width_of(settings.fanout, level))


def tree_root(settings, moment):
    """Return the root behind so many rows, None behind 0 rows."""
    first, after = live_pages(settings, moment)
    if first == after:
        return None
    level = root_level(settings.fanout, first, after - 1)
    return (level, first // width_of(settings.fanout, level))


def tree_nodes(settings, moment):
    """Return all nodes of the tree behind so many rows, by level and index."""
    first, after = live_pages(settings, moment)
    if first == after:
        return []
    return tree_over(settings.fanout, first, after - 1)


def tree_height(settings, moment):
    """Return how many levels the tree has behind so many rows."""
    first, after = live_pages(settings, moment)
    if first == after:
        return 0
    return root_level(settings.fanout, first, after - 1) + 1


def children(settings, moment, node):
    """Return the children of a node of the tree: heap pages below level 0, nodes below all others."""
    first, after = live_pages(settings, moment)
    check_tree_node(settings, moment, node)
    level, index = node
    fanout = settings.fanout
    # How many heap pages one child stands for.
    width = power(fanout, level)
    least = max(index * fanout, first // width)
    most = min(index * fanout + fanout - 1, (after - 1) // width)
    if level == 0:
        return list(range(least, most + 1))
    return [(level - 1, child) for child in range(least, most + 1)]


def parent(settings, moment, node):
    """Return the node above a node of the tree, None for the root."""
    root = tree_root(settings, moment)
    check_tree_node(settings, moment, node)
    if node == root:
        return None
    level, index = node
    return (level + 1, index // settings.fanout)


def path_to(settings, moment, row):
    """Return the way from the root to one of the newest rows: (node, number of the child) for each level."""
    root = tree_root(settings, moment)
    if not is_within(row, max(0, moment - settings.keep), moment - 1):
        raise InvalidRow(row)
    below = Packing(settings).page_with(row)
    path = []
    for level in range(root[0] + 1):
        node = (level, below // settings.fanout)
        path.append((node, below % settings.fanout))
        below = node[1]
    return path[::-1]


def begun_by(settings, row):
    """Return (page, nodes): the heap page that a row begins, or None, and the nodes that begin with it."""
    check_settings(settings)
    check_row(row)
    packing = Packing(settings)
    page = packing.page_with(row)
    if packing.start_of(page) < row:
        return (None, [])
    first = packing.page_with(max(0, row - settings.keep))
    return (page, nodes_beyond(settings.fanout, first, page, first, page - 1))


def ended_by(settings, row):
    """Return (page, nodes): the heap page that ends when a row has come, or None, and the nodes that end."""
    check_settings(settings)
    check_row(row)
    packing = Packing(settings)
    oldest = row - settings.keep
    if oldest < 0 or packing.page_with(oldest) == packing.page_with(oldest + 1):
        return (None, [])
    first = packing.page_with(oldest)
    last = packing.page_with(row)
    return (first, nodes_beyond(settings.fanout, first, last, first + 1, last))


def stretches_of(settings, node):
    """Return the ascending list of stretches (first, after) that make up the times of a node, also touching ones."""
    packing = Packing(settings)
    level, index = node
    # The borders of the node's level: the first heap page of each child, and the page behind them all.
    step = power(settings.fanout, level)
    first = index * settings.fanout * step
    after = first + settings.fanout * step
    if level == 0:
        return [(packing.start_of(first) + 1, packing.start_of(after) + settings.keep)]
    starts = [packing.start_of(page) for page in range(first, after + 1, step) if page > 0]
    return [(start + 1, start + settings.keep) for start in starts if settings.keep > 1]


def node_times(settings, node):
    """Return when a node is in the tree: behind first to after - 1 rows, for each (first, after)."""
    check_settings(settings)
    check_node(settings, node)
    times = []
    for first, after in stretches_of(settings, node):
        if first > ROWS:
            continue
        after = min(after, ROWS + 1)
        if times and first <= times[-1][1]:
            times[-1] = (times[-1][0], after)
        else:
            times.append((first, after))
    return times
