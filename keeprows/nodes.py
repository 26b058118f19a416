"""Nodes over heap pages, by division alone: node (level, index) covers fanout ** (level + 1) heap pages."""


def power(base, exponent):
    """Return base to the power of an exponent from 0 on."""
    number = 1
    for _ in range(exponent):
        number *= base
    return number


def width_of(fanout, level):
    """Return how many heap pages a node of a level covers."""
    return power(fanout, level + 1)


def root_level(fanout, first, last):
    """Return the least level with a node that covers the heap pages from first to last."""
    level = 0
    width = fanout
    while first // width != last // width:
        level += 1
        width *= fanout
    return level


def tree_over(fanout, first, last):
    """Return the nodes of the tree over the heap pages from first to last, by level and number."""
    nodes = []
    width = fanout
    for level in range(root_level(fanout, first, last) + 1):
        nodes += [(level, index) for index in range(first // width, last // width + 1)]
        width *= fanout
    return nodes


def nodes_beyond(fanout, first, last, low, high):
    """Return those nodes of the tree over first to last that the tree over low to high has not.

    The heap pages from low to high are those from first to last without one at an end; so on each
    level only the first and the last node can be such, also above the root of the smaller tree.
    """
    nodes = []
    level = 0
    width = fanout
    above = low > high
    while True:
        many = len(nodes)
        left = first // width
        right = last // width
        if above or left < low // width:
            nodes.append((level, left))
        if left < right and (above or high // width < right):
            nodes.append((level, right))
        # Where both trees have the same nodes on a level, they have the same on all above it.
        if left == right or len(nodes) == many:
            return nodes
        above = above or low // width == high // width
        level += 1
        width *= fanout
