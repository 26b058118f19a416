"""The tree over the heap pages: [15] to [21], and what [2], [3] and [7] say of them."""

import unittest
from random import Random

from keeprows import trees
from keeprows.errors import InvalidArgument, InvalidNumber, InvalidPage, InvalidRow
from keeprows.packing import Packing
from keeprows.trees import (
    begun_by, children, covered, ended_by, live_pages, next_border, node_over, node_times, parent, path_to,
    tree_height, tree_nodes, tree_root,
)

from model import many_settings, plain_children, plain_tree
from plain import ROWS, count_rows, make, strange_objects
from refusals import WRONG_MOMENT, WRONG_ROW, WRONG_SETTINGS, check_refusals, numbers_but

FUNCTIONS = [
    live_pages, next_border, covered, node_over, tree_root, tree_nodes, tree_height, children, parent, path_to,
    begun_by, ended_by, node_times,
]
EACH_ITS_OWN = make([1], 1, 2, 4, 10, 3)


def plain_pages(settings, many):
    """The heap pages of the first rows, put one by one."""
    return [page for _, page, _ in count_rows(settings.lengths, settings.size, 0, 0, many)]


def pages_of(packing, first, after):
    """The heap pages of the rows from first to after - 1, each once."""
    return sorted({packing.page_of(row) for row in range(max(0, first), after)})


def far_moments(settings, chance, many):
    """Moments about the first rows of heap pages whose numbers are multiples of great powers of the fanout."""
    packing = Packing(settings)
    last = packing.page_of(ROWS - 1)
    moments = [ROWS, ROWS - 1]
    while len(moments) < many:
        step = settings.fanout ** chance.randint(1, 100)
        if step <= last:
            row = packing.first_row(chance.randint(1, last // step) * step)
            moments += [row, row + 1, row + settings.keep - 1, row + settings.keep, row + chance.randint(-50, 150)]
    return [moment for moment in moments if 0 <= moment <= ROWS]


class TreesTest(unittest.TestCase):

    def check_tree(self, settings, moment, pages):
        """Check all that is asked of one moment against the tree over some heap pages, made level by level."""
        fanout, nodes = settings.fanout, plain_tree(settings.fanout, pages)
        self.assertEqual(live_pages(settings, moment), (pages[0], pages[-1] + 1))
        self.assertEqual(tree_nodes(settings, moment), nodes)
        self.assertEqual(tree_root(settings, moment), nodes[-1])
        self.assertEqual(tree_height(settings, moment), nodes[-1][0] + 1)
        for node in nodes[:4] + nodes[-4:]:
            found = plain_children(fanout, pages, nodes, node)
            self.assertEqual(children(settings, moment, node), found)
            above = [other for other in nodes if node in plain_children(fanout, pages, nodes, other)]
            self.assertEqual(parent(settings, moment, node), (above + [None])[0])

    def check_paths(self, settings, moment, place):
        """Check the ways to the rows of a dict from rows to heap pages."""
        root = tree_root(settings, moment)
        for row, page in place.items():
            way = path_to(settings, moment, row)
            self.assertEqual(way[0][0], root)
            self.assertEqual(len(way), root[0] + 1)
            for at, ((level, number), child) in enumerate(way):
                below = page if level == 0 else way[at + 1][0][1]
                self.assertEqual(level, root[0] - at)
                self.assertEqual((number, child), divmod(below, settings.fanout))

    def test_near_moments(self):
        for settings in many_settings(21, 60):
            pages = plain_pages(settings, 260)
            for moment in list(range(1, 40)) + list(range(40, 260, 3)):
                oldest = max(0, moment - settings.keep)
                self.check_tree(settings, moment, sorted(set(pages[oldest:moment])))
                if moment % 5 == 0:
                    self.check_paths(settings, moment, {row: pages[row] for row in range(oldest, moment)})

    def test_far_moments(self):
        chance = Random(22)
        for settings in many_settings(22, 60):
            packing = Packing(settings)
            for moment in far_moments(settings, chance, 30):
                self.check_tree(settings, moment, pages_of(packing, moment - settings.keep, moment))

    def test_ways_to_far_rows(self):
        chance = Random(23)
        for settings in many_settings(23, 40):
            packing = Packing(settings)
            for moment in far_moments(settings, chance, 10):
                rows = range(max(0, moment - settings.keep), moment)
                self.check_paths(settings, moment, {row: packing.page_of(row) for row in rows})

    def test_behind_no_rows(self):
        for settings in many_settings(24, 20):
            self.assertEqual(live_pages(settings, 0), (0, 0))
            self.assertEqual([tree_root(settings, 0), tree_nodes(settings, 0), tree_height(settings, 0)], [None, [], 0])

    def test_the_fact_about_the_root(self):
        chance = Random(25)
        for settings in many_settings(25, 40):
            for moment in list(range(1, 80)) + far_moments(settings, chance, 15):
                first, after = live_pages(settings, moment)
                level = 0
                while any(page % settings.fanout ** (level + 1) == 0 for page in range(first + 1, after)):
                    level += 1
                self.assertEqual(tree_root(settings, moment)[0], level)


class BorderTest(unittest.TestCase):

    def test_near_borders(self):
        for settings in many_settings(31, 40):
            placed = count_rows(settings.lengths, settings.size, 0, 0, 3000)
            begins = [(row, page) for row, page, _ in placed if row > 0 and placed[row - 1][1] != page]
            for level in range(4):
                borders = [(row, page) for row, page in begins if page % settings.fanout ** level == 0]
                for moment in [0, 1, 2, 3, 10, 50, 99, 100, 101, 200]:
                    found = [border for border in borders if border[0] >= moment]
                    if found:
                        self.assertEqual(next_border(settings, moment, level), found[0])

    def test_borders_of_all_levels(self):
        chance = Random(32)
        nones = 0
        for settings in many_settings(32, 40):
            packing = Packing(settings)
            last = packing.page_of(ROWS - 1)
            for moment in [0, 1, ROWS, ROWS - 1, ROWS // 3] + far_moments(settings, chance, 4):
                for level in range(0, 111, 3):
                    found, step = next_border(settings, moment, level), settings.fanout ** level
                    if found is None:
                        page = (last // step + 1) * step
                        nones += 1
                    else:
                        row, page = found
                        self.assertIs(type(found), tuple)
                        self.assertEqual((packing.first_row(page), page % step, row >= moment), (row, 0, True))
                    ahead = page - step
                    self.assertTrue(ahead <= 0 or packing.first_row(ahead) < moment)
        self.assertGreater(nones, 100)

    def test_the_last_borders(self):
        self.assertEqual(next_border(EACH_ITS_OWN, ROWS - 1, 0), (ROWS - 1, ROWS - 1))
        self.assertIsNone(next_border(EACH_ITS_OWN, ROWS - 1, 1))
        self.assertIsNone(next_border(EACH_ITS_OWN, ROWS, 0))
        self.assertEqual(next_border(EACH_ITS_OWN, 0, 99), (2 ** 99, 2 ** 99))
        self.assertEqual(next_border(EACH_ITS_OWN, 2 ** 99, 99), (2 ** 99, 2 ** 99))
        self.assertIsNone(next_border(EACH_ITS_OWN, 2 ** 99 + 1, 99))
        self.assertIsNone(next_border(EACH_ITS_OWN, 0, 100))
        self.assertIsNone(next_border(EACH_ITS_OWN, 0, 110))
        self.assertEqual(next_border(EACH_ITS_OWN, 0, 0), (1, 1))


class NodeTest(unittest.TestCase):

    def test_what_nodes_cover(self):
        chance = Random(41)
        for fanout in range(2, 9):
            settings = make([1], 1, fanout)
            for level in range(111):
                width = fanout ** (level + 1)
                for page in [0, 1, fanout, ROWS, ROWS - 1, chance.randint(0, ROWS), min(ROWS, width), min(ROWS, width - 1)]:
                    node = node_over(settings, page, level)
                    self.assertEqual(node, (level, page // width))
                    first, after = covered(settings, node)
                    self.assertEqual((first % width, after - first, first <= page < after), (0, width, True))
                    self.assertEqual(node[1], first // width)
                    self.assertEqual([type(node), type(covered(settings, node))], [tuple, tuple])

    def test_the_last_nodes(self):
        self.assertEqual(covered(EACH_ITS_OWN, (0, ROWS // 2)), (ROWS, ROWS + 2))
        self.assertEqual(covered(EACH_ITS_OWN, (110, 0)), (0, 2 ** 111))
        self.assertEqual(covered(EACH_ITS_OWN, (29, 5 ** 30)), (5 ** 30 * 2 ** 30, (5 ** 30 + 1) * 2 ** 30))


class RowTest(unittest.TestCase):

    def check_row(self, settings, row, ahead, between, behind):
        """Check what a row begins and ends, by the heap pages ahead of it, between its two steps, and behind it."""
        fanout = settings.fanout
        trees_then = [plain_tree(fanout, pages) if pages else [] for pages in (ahead, between, behind)]
        begun = [page for page in between if page not in ahead]
        ended = [page for page in between if page not in behind]
        nodes = [node for node in trees_then[1] if node not in trees_then[0]]
        self.assertEqual(begun_by(settings, row), ((begun + [None])[0], nodes))
        nodes = [node for node in trees_then[1] if node not in trees_then[2]]
        self.assertEqual(ended_by(settings, row), ((ended + [None])[0], nodes))

    def test_near_rows(self):
        for settings in many_settings(51, 60):
            pages = plain_pages(settings, 300)
            for row in range(299):
                ahead = pages[max(0, row - settings.keep):row]
                between = ahead + [pages[row]]
                behind = between[-settings.keep:]
                self.check_row(settings, row, *[sorted(set(told)) for told in (ahead, between, behind)])

    def test_far_rows(self):
        chance = Random(52)
        for settings in many_settings(52, 60):
            packing, keep = Packing(settings), settings.keep
            for row in far_moments(settings, chance, 30):
                if row < ROWS:
                    told = [(row - keep, row), (row - keep, row + 1), (row - keep + 1, row + 1)]
                    self.check_row(settings, row, *[pages_of(packing, first, after) for first, after in told])

    def test_a_node_begun_and_ended_by_one_row(self):
        settings = make([1], 1, 2, 4, 10, 1)
        self.assertEqual(begun_by(settings, 8), (8, [(0, 4), (1, 1), (1, 2), (2, 0), (2, 1), (3, 0)]))
        self.assertEqual(ended_by(settings, 8), (7, [(0, 3), (1, 1), (1, 2), (2, 0), (2, 1), (3, 0)]))


class TimesTest(unittest.TestCase):

    def check_plain(self, settings, node, found, limit):
        """Check the times of a node up to a limit, from the moments behind which it is in the tree."""
        told = [moment for first, after in node_times(settings, node) for moment in range(first, min(after, limit))]
        self.assertEqual(told, found)

    def test_near_nodes(self):
        for settings in many_settings(61, 40):
            pages, there = plain_pages(settings, 420), {}
            for moment in range(1, 420):
                live = sorted(set(pages[max(0, moment - settings.keep):moment]))
                for node in plain_tree(settings.fanout, live):
                    there.setdefault(node, []).append(moment)
            for node, found in there.items():
                self.check_plain(settings, node, found, 420)
            for node in [(4, 0), (5, 0), (5, 1), (110, 0)]:
                self.check_plain(settings, node, there.get(node, []), 420)

    def test_stretches_do_not_touch(self):
        chance = Random(62)
        for settings in many_settings(62, 60):
            for moment in [5, 100, 300] + far_moments(settings, chance, 12):
                for node in tree_nodes(settings, moment)[::3]:
                    times = node_times(settings, node)
                    self.assertIs(type(times), list)
                    for first, after in times:
                        self.assertLess(first, after)
                    for (_, after), (first, _) in zip(times, times[1:]):
                        self.assertLess(after, first)

    def test_far_nodes_at_the_ends_of_their_stretches(self):
        chance = Random(63)
        for settings in many_settings(63, 60):
            for moment in far_moments(settings, chance, 12):
                nodes = tree_nodes(settings, moment)
                for node in nodes[:2] + nodes[-6:]:
                    times = node_times(settings, node)
                    self.assertEqual(len([1 for first, after in times if first <= moment < after]), 1)
                    for first, after in times:
                        for there in [first, after - 1]:
                            self.assertIn(node, tree_nodes(settings, there))
                        for there in [first - 1, after]:
                            if there <= ROWS:
                                self.assertNotIn(node, tree_nodes(settings, there))

    def test_the_last_moments(self):
        for settings in many_settings(64, 40):
            for node in tree_nodes(settings, ROWS):
                self.assertEqual(node_times(settings, node)[-1][1], ROWS + 1)
            # A heap page that begins behind the last row is on no node's way.
            page = Packing(settings).page_of(ROWS - 1) + 1
            node = (0, page // settings.fanout + 1)
            if node[1] * settings.fanout <= ROWS:
                self.assertEqual(node_times(settings, node), [])

    def test_last_times_told_by_hand(self):
        self.assertEqual(node_times(EACH_ITS_OWN, (0, ROWS // 2)), [])
        self.assertEqual(node_times(EACH_ITS_OWN, (0, ROWS // 2 - 1)), [(ROWS - 1, ROWS + 1)])
        self.assertEqual(node_times(EACH_ITS_OWN, (0, ROWS // 2 - 2)), [(ROWS - 3, ROWS + 1)])
        self.assertEqual(node_times(EACH_ITS_OWN, (0, ROWS // 2 - 3)), [(ROWS - 5, ROWS - 1)])
        self.assertEqual(node_times(EACH_ITS_OWN, (99, 0)), [(2 ** 99 + 1, 2 ** 99 + 3)])
        self.assertEqual(node_times(EACH_ITS_OWN, (100, 0)), [])
        self.assertEqual(node_times(EACH_ITS_OWN, (110, 0)), [])

    def test_with_one_row_kept_only_level_0_is_there(self):
        settings = make([1], 1, 2, 4, 10, 1)
        self.assertEqual([node_times(settings, (level, 0)) for level in range(4)], [[(1, 3)], [], [], []])


NO_NODES = strange_objects() + [
    0, 5, (0, 1, 2), (True, 0), (0, True), (0, False), (-1, 0), (111, 0), (0, -1), [0, 1], "01", {0: 1}, (0.0, 1),
    (0, 1.0), ("0", "1"), ([], {}), (0, []), ({}, 0), (0, ROWS // 2 + 1), (0, ROWS), (110, 1), (None, None), (0, 10 ** 60),
    ((0, 1),), (0, (1,)), b"01",
]
WRONG_NODE = ("node", NO_NODES, InvalidArgument, "node")
WRONG_LEVEL = ("level", numbers_but(0, 110), InvalidNumber, None)


class WrongArgumentsTest(unittest.TestCase):

    def test_of_a_moment(self):
        for call in [live_pages, tree_root, tree_nodes, tree_height]:
            check_refusals(self, call, {"settings": EACH_ITS_OWN, "moment": 6}, [WRONG_SETTINGS, WRONG_MOMENT])

    def test_next_border(self):
        good = {"settings": EACH_ITS_OWN, "moment": 6, "level": 2}
        check_refusals(self, next_border, good, [WRONG_SETTINGS, WRONG_MOMENT, WRONG_LEVEL])

    def test_covered_and_node_times(self):
        for call in [covered, node_times]:
            check_refusals(self, call, {"settings": EACH_ITS_OWN, "node": (0, 1)}, [WRONG_SETTINGS, WRONG_NODE])

    def test_node_over(self):
        wrong_page = ("page", numbers_but(0, ROWS), InvalidPage, None)
        good = {"settings": EACH_ITS_OWN, "page": 6, "level": 2}
        check_refusals(self, node_over, good, [WRONG_SETTINGS, wrong_page, WRONG_LEVEL])

    def test_children_and_parent(self):
        # Behind six rows the tree has (0, 1), (0, 2), (1, 0), (1, 1) and (2, 0).
        others = [(0, 0), (0, 3), (1, 2), (2, 1), (3, 0), (110, 0), (0, ROWS // 2)]
        wrong_node = ("node", NO_NODES + others, InvalidArgument, "node")
        for call in [children, parent]:
            good = {"settings": EACH_ITS_OWN, "moment": 6, "node": (0, 1)}
            check_refusals(self, call, good, [WRONG_SETTINGS, WRONG_MOMENT, wrong_node])

    def test_nodes_that_are_not_in_the_tree_then(self):
        chance = Random(71)
        for settings in many_settings(71, 30):
            for moment in [0, 1, 2, 50] + far_moments(settings, chance, 6):
                nodes = tree_nodes(settings, moment)
                top = nodes[-1][0] + 1 if nodes else 0
                first, after = live_pages(settings, moment)
                for level in range(top + 2):
                    width = settings.fanout ** (level + 1)
                    least, most = first // width, max(first, after - 1) // width
                    for node in [(level, number) for number in (least - 1, least, most, most + 1)]:
                        self.check_there(settings, moment, node, node in nodes)

    def check_there(self, settings, moment, node, there):
        for call in [children, parent]:
            if there:
                call(settings, moment, node)
            else:
                with self.assertRaises(InvalidArgument) as caught:
                    call(settings, moment, node)
                self.assertEqual(caught.exception.part, "node")

    def test_path_to(self):
        wrong_row = ("row", numbers_but(3, 5), InvalidRow, None)
        good = {"settings": EACH_ITS_OWN, "moment": 6, "row": 4}
        check_refusals(self, path_to, good, [WRONG_SETTINGS, WRONG_MOMENT, wrong_row])
        for moment, row in [(0, 0), (0, -1), (1, 1), (ROWS, ROWS), (ROWS, ROWS - 4), (3, -1), (2, 2)]:
            with self.assertRaises(InvalidRow):
                path_to(EACH_ITS_OWN, moment, row)

    def test_of_a_row(self):
        for call in [begun_by, ended_by]:
            check_refusals(self, call, {"settings": EACH_ITS_OWN, "row": 6}, [WRONG_SETTINGS, WRONG_ROW])

    def test_the_greatest_are_accepted(self):
        for settings in many_settings(72, 30):
            last = ROWS - 1
            for call in [live_pages, tree_root, tree_nodes, tree_height]:
                call(settings, ROWS)
            next_border(settings, ROWS, 110)
            self.assertEqual(node_over(settings, ROWS, 110), (110, 0))
            self.assertEqual(covered(settings, (110, 0)), (0, settings.fanout ** 111))
            self.assertEqual(node_times(settings, (110, 0)), [])
            path_to(settings, ROWS, last)
            begun_by(settings, last)
            ended_by(settings, last)


class InterfaceTest(unittest.TestCase):

    def test_each_function_stands_in_its_file(self):
        for call in FUNCTIONS:
            self.assertEqual(call.__module__, "keeprows.trees")
            self.assertIs(getattr(trees, call.__name__), call)

    def test_kinds_of_what_is_returned(self):
        self.assertIs(type(live_pages(EACH_ITS_OWN, 6)), tuple)
        self.assertIs(type(tree_root(EACH_ITS_OWN, 6)), tuple)
        self.assertIs(type(tree_height(EACH_ITS_OWN, 6)), int)
        self.assertIs(type(parent(EACH_ITS_OWN, 6, (0, 1))), tuple)
        for told in [begun_by(EACH_ITS_OWN, 4), ended_by(EACH_ITS_OWN, 4), ended_by(EACH_ITS_OWN, 0)]:
            self.assertEqual([type(told), type(told[1])], [tuple, list])

    def test_every_returned_list_is_new(self):
        for call, told in [
            (tree_nodes, [6]), (children, [6, (1, 0)]), (path_to, [6, 4]), (node_times, [(2, 0)]),
        ]:
            first = call(EACH_ITS_OWN, *told)
            kept = list(first)
            first.clear()
            self.assertEqual(call(EACH_ITS_OWN, *told), kept)


if __name__ == "__main__":
    unittest.main()
