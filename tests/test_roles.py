"""The roles of a page: [50] to [55]."""

import time
import unittest
from random import Random

from keeprows import roles
from keeprows.errors import InvalidArgument, InvalidNumber, InvalidPage
from keeprows.far import Far
from keeprows.packing import Packing
from keeprows.roles import (
    home, homes, last_taken, next_taken, page_with, role_at, role_span, taken, takes,
)
from keeprows.trees import node_times, tree_nodes

from model import PlainStore, far_settings, plain_copy
from plain import ROWS, make, strange_objects
from refusals import WRONG_FAR, WRONG_MOMENT, check_refusals, numbers_but

EXAMPLE = make([1], 2, 2, 2, 4, 3)
KINDS = ["heap", "node", "log"]
WRONG_PAGE = ("page", numbers_but(0, None), InvalidPage, None)
# None is a kind, too: it stands for all of them.
WRONG_KIND = ("kind", [told for told in strange_objects() if told is not None] + [
    5, "", "Heap", "heap ", "record", "write", "free", ("heap",), b"heap",
], InvalidArgument, "kind")


def near_borders(settings, chance, many):
    """Moments near a border of a great level, far away."""
    packing, found = Packing(settings), []
    last = packing.page_of(ROWS - 1)
    while len(found) < many:
        step = settings.fanout ** chance.randint(3, 99)
        if step <= last:
            row = packing.first_row(chance.randint(1, last // step) * step)
            found.append(max(0, row - chance.randint(0, settings.every + 10)))
    return found


def takings_of(events):
    """The takings of each page: a dict to lists of (row, role), from a list of (row, events)."""
    found = {}
    for row, told in events:
        for event in told:
            if event[0] == "take":
                found.setdefault(event[1], []).append((row, event[2]))
    return found


def run_events(store, many):
    return [(store.done, store.step()) for _ in range(many)]


def plain_spans(events, size, many):
    """The stretches of each page: lists of (role, first, after), from the events of the first rows.

    after is -1 where a stretch goes on behind the last row.
    """
    found = {page: [(None, 0, -1)] for page in range(size)}
    for row, told in events:
        for event in told:
            if event[0] in ("take", "give", "free"):
                role = {"take": event[-1], "give": ("waiting",), "free": ("free",)}[event[0]]
                stretches = found[event[1]]
                stretches[-1] = (*stretches[-1][:2], row + 1)
                stretches.append((role, row + 1, -1))
    return {
        page: [told for told in stretches if told[1] != told[2]] for page, stretches in found.items()
    }


class RoleTest(unittest.TestCase):

    def test_all_pages_behind_the_first_rows(self):
        for settings in far_settings(611, 15):
            far, store, once = Far(settings), PlainStore(settings), {("heap", 0), ("node", 0, 0), ("log", 0)}
            for _ in range(60):
                told = store.roles()
                for page, role in enumerate(told):
                    self.assertEqual(role_at(far, page, store.done), role)
                    if role[0] in KINDS:
                        self.assertEqual(page_with(far, role, store.done), page)
                        once.add(role)
                for page in [store.size, store.size + 1, 10 ** 40]:
                    self.assertIsNone(role_at(far, page, store.done))
                for role in once - set(told):
                    self.assertIsNone(page_with(far, role, store.done))
                store.step()

    def test_far_away(self):
        chance = Random(612)
        for settings in far_settings(613, 15):
            far = Far(settings)
            for moment in [chance.randint(0, ROWS), ROWS] + near_borders(settings, chance, 2):
                told = plain_copy(settings, far.behind(moment)).roles()
                for page, role in enumerate(told):
                    self.assertEqual(role_at(far, page, moment), role)
                    if role[0] in KINDS:
                        self.assertEqual(page_with(far, role, moment), page)
                self.assertIsNone(role_at(far, len(told), moment))

    def test_roles_that_no_page_has(self):
        far = Far(EXAMPLE)
        for role in [
            ("heap", 10 ** 40), ("heap", 0), ("log", 10 ** 40), ("log", 1), ("node", 110, 0), ("node", 0, 0),
            ("node", 5, 10 ** 25),
        ]:
            self.assertIsNone(page_with(far, role, 9))
            self.assertIsNone(page_with(far, role, 0))
        self.assertEqual(page_with(far, ("log", 0), 9), far.behind(9).log_pages()[0])


class TakesTest(unittest.TestCase):

    def check_page(self, far, page, found, many):
        """Check what is told of the takings of a page, of which all in the first rows are known."""
        for kind in [None] + KINDS:
            told = [one for one in found if kind in (None, one[1][0])]
            for moment in {0, 1, many // 3, many // 2, many} | {row for row, _ in told} | {row + 1 for row, _ in told}:
                count = len([one for one in told if one[0] < moment])
                self.assertEqual(takes(far, page, moment, kind=kind), count)
            for number, one in enumerate(told):
                self.assertEqual(taken(far, page, number, kind=kind), one)
            later = taken(far, page, len(told), kind=kind)
            self.assertTrue(later is None or later[0] >= many)
        for moment in range(0, many, max(1, many // 20)):
            ahead = [one for one in found if one[0] < moment]
            behind = [one for one in found if one[0] >= moment]
            self.assertEqual(last_taken(far, page, moment), ahead[-1] if ahead else None)
            told = next_taken(far, page, moment)
            if behind:
                self.assertEqual(told, behind[0])
            else:
                self.assertTrue(told is None or told[0] >= many)

    def test_the_first_rows(self):
        for settings in far_settings(621, 14, 40, 20):
            far, store = Far(settings), PlainStore(settings)
            events = run_events(store, 110)
            found = takings_of(events)
            for page in list(range(0, store.size + 1, 2)):
                self.check_page(far, page, found.get(page, []), 110)

    def test_plain_rows_far_away(self):
        chance = Random(622)
        for settings in far_settings(623, 14, 60, 30):
            far = Far(settings)
            for moment in near_borders(settings, chance, 3) + [ROWS - 40, chance.randint(0, ROWS)]:
                moment = min(moment, ROWS - 40)
                store = plain_copy(settings, far.behind(moment))
                found = takings_of(run_events(store, 40))
                for page in chance.sample(range(store.size), min(12, store.size)):
                    self.check_far_page(far, page, moment, found.get(page, []))

    def check_far_page(self, far, page, moment, found):
        """Check what is told of a page about a far moment; found has the takings in the forty rows from there on."""
        for kind in [None] + KINDS:
            told = [one for one in found if kind in (None, one[1][0])]
            before = takes(far, page, moment, kind=kind)
            self.assertEqual(takes(far, page, moment + 40, kind=kind), before + len(told))
            for number, one in enumerate(told):
                self.assertEqual(taken(far, page, before + number, kind=kind), one)
            later = taken(far, page, before + len(told), kind=kind)
            self.assertTrue(later is None or later[0] >= moment + 40)
            if before:
                self.assertLess(taken(far, page, before - 1, kind=kind)[0], moment)
        told = next_taken(far, page, moment)
        if found:
            self.assertEqual(told, found[0])
            self.assertEqual(last_taken(far, page, moment + 40), found[-1])
        else:
            self.assertTrue(told is None or told[0] >= moment + 40)
        number = takes(far, page, moment)
        self.assertEqual(told, taken(far, page, number))
        self.assertEqual(last_taken(far, page, moment), taken(far, page, number - 1) if number else None)

    def test_numbers_and_moments_fit(self):
        chance = Random(624)
        for settings in far_settings(625, 15):
            far = Far(settings)
            for _ in range(15):
                moment = chance.randint(0, ROWS)
                page = chance.randrange(far.behind(moment).file_size())
                kind = chance.choice([None] + KINDS)
                many = takes(far, page, moment, kind=kind)
                if many:
                    number = chance.choice([many - 1, chance.randrange(many)])
                    row, role = taken(far, page, number, kind=kind)
                    self.assertLess(row, moment)
                    self.assertTrue(kind in (None, role[0]))
                    self.assertEqual(takes(far, page, row, kind=kind), number)
                    self.assertEqual(takes(far, page, row + 1, kind=kind), number + 1)
                later = taken(far, page, many, kind=kind)
                self.assertTrue(later is None or moment <= later[0] < ROWS)
                self.assertEqual(sum(takes(far, page, moment, kind=one) for one in KINDS), takes(far, page, moment))

    def test_behind_the_last_row(self):
        for settings in far_settings(626, 10):
            far = Far(settings)
            size = far.behind(ROWS).file_size()
            for page in [0, 1, size - 1]:
                many = takes(far, page, ROWS)
                self.assertGreater(many, 0)
                for number in [many, many + 1, 10 ** 40]:
                    self.assertIsNone(taken(far, page, number))
                self.assertIsNone(next_taken(far, page, ROWS))
                self.assertLess(last_taken(far, page, ROWS)[0], ROWS)
            for page in [size, size + 1, 10 ** 40]:
                self.assertEqual([takes(far, page, ROWS), takes(far, page, 5, kind="log")], [0, 0])
                self.assertEqual([taken(far, page, 0), last_taken(far, page, ROWS), next_taken(far, page, 0)], [None] * 3)


class SpanTest(unittest.TestCase):

    def check_spans(self, far, stretches, many):
        for page, told in stretches.items():
            for role, first, after in told:
                for moment in {first, (after if after > 0 else many + 1) - 1, (first + max(first, after)) // 2}:
                    if after < 0:
                        found = role_span(far, page, moment)
                        self.assertEqual(found[:2], (role, first))
                        self.assertTrue(found[2] is None or found[2] > many)
                    elif first <= moment < after:
                        self.assertEqual(role_span(far, page, moment), (role, first, after))

    def test_the_first_rows(self):
        for settings in far_settings(631, 16, 40, 20):
            far, store = Far(settings), PlainStore(settings)
            events = run_events(store, 70)
            self.check_spans(far, plain_spans(events, store.size, 70), 70)

    def test_stretches_that_no_moment_has(self):
        # With one row kept and a checkpoint behind each row, nodes come and go within one row.
        for settings in [make([1], 1, 2, 1, 1, 1), make([1], 1, 2, 3, 2, 1), make([2, 1], 2, 3, 2, 3, 2)]:
            far, store = Far(settings), PlainStore(settings)
            events = run_events(store, 60)
            self.check_spans(far, plain_spans(events, store.size, 60), 60)

    def test_far_away(self):
        chance = Random(632)
        for settings in far_settings(633, 14, 40, 20):
            far = Far(settings)
            for moment in near_borders(settings, chance, 3) + [ROWS, ROWS - 1, chance.randint(0, ROWS)]:
                book = far.behind(moment)
                for page in chance.sample(range(book.file_size()), min(5, book.file_size())):
                    self.check_stretch(far, page, moment, book.role(page))

    def check_stretch(self, far, page, moment, role):
        told, first, after = role_span(far, page, moment)
        self.assertEqual(told, role[:1] if role[0] in ("waiting", "free") else role)
        self.assertTrue(first <= moment and (after is None or moment < after <= ROWS))
        last = ROWS if after is None else after - 1
        for other in {first, last}:
            self.assertEqual(role_span(far, page, other), (told, first, after))
            self.assertEqual(role_at(far, page, other)[0], role[0])
        if first:
            ahead = role_span(far, page, first - 1)
            self.assertEqual(ahead[2], first)
        if after is not None:
            self.assertEqual(role_span(far, page, after)[1], after)
        # Plain rows from the beginning of the stretch on, and up to its end.
        for start in [first, max(first, last - 20)]:
            store = plain_copy(far.settings, far.behind(start))
            while store.done < min(start + 20, ROWS):
                events = [event for event in store.step() if event[0] in ("take", "give", "free") and event[1] == page]
                self.assertEqual(bool(events) and store.done > last, bool(events))
                if store.done > last:
                    self.assertTrue(events)
                    break

    def test_pages_that_are_never_taken(self):
        for settings in far_settings(634, 6):
            far = Far(settings)
            size = far.behind(ROWS).file_size()
            for page in [size, size + 5, 10 ** 40]:
                for moment in [0, 7, ROWS]:
                    self.assertEqual(role_span(far, page, moment), (None, 0, None))
            self.assertEqual(role_span(far, 0, 0)[:2], (None, 0))


class HomeTest(unittest.TestCase):

    def test_near(self):
        for settings in far_settings(641, 15):
            far, store, nodes = Far(settings), PlainStore(settings), {}
            for moment in range(120):
                for number, page in store.heap_pages():
                    if moment % 9 == 0:
                        self.assertEqual(home(far, number), page)
                for level, index, page in store.node_pages():
                    nodes.setdefault((level, index), {})[moment] = page
                store.step()
            for node, pages in nodes.items():
                told = homes(far, node)
                self.assertEqual([one[:2] for one in told], node_times(settings, node))
                for first, after, page in told:
                    for moment in range(first, min(after, 120)):
                        self.assertEqual(pages.pop(moment), page)
                self.assertEqual(pages, {})

    def test_far(self):
        chance = Random(642)
        for settings in far_settings(643, 15, 40):
            far, packing = Far(settings), Packing(settings)
            for moment in near_borders(settings, chance, 2) + [chance.randint(1, ROWS), ROWS]:
                book = far.behind(moment)
                for number, page in book.heap_pages()[:2] + book.heap_pages()[-1:]:
                    self.assertEqual(home(far, number), page)
                for level, index, page in book.node_pages():
                    told = [one for one in homes(far, (level, index)) if one[0] <= moment < one[1]]
                    self.assertEqual([one[2] for one in told], [page])
                self.assertEqual([node[:2] for node in book.node_pages()], tree_nodes(settings, moment))
            last = packing.page_of(ROWS - 1)
            self.assertEqual(home(far, last), far.behind(ROWS).heap_pages()[-1][1])

    def test_nodes_that_are_never_there(self):
        self.assertEqual(homes(Far(make([1], 1, 2, 3, 4, 1)), (1, 0)), [])
        self.assertEqual(homes(Far(EXAMPLE), (110, 0)), [])

    def test_far_lasting_times(self):
        settings = make([1], 2, 2, 2, 4, 100)
        far = Far(settings)
        for node in [(0, 5), (4, 1), (60, 1)]:
            for first, after, page in homes(far, node):
                self.assertEqual(page_with(far, ("node", *node), first), page)
                self.assertEqual(page_with(far, ("node", *node), min(after, ROWS + 1) - 1), page)


class SpeedTest(unittest.TestCase):

    def test_some_hundred_far_questions(self):
        chance = Random(651)
        for settings in [EXAMPLE, make([1], 64, 8, 16, 40, 100), make([1], 1, 2, 3, 10, 60)]:
            far, before = Far(settings), time.process_time()
            for _ in range(100):
                moment = chance.randint(10 ** 29, ROWS)
                page = chance.randrange(60)
                self.assertGreaterEqual(takes(far, page, moment), takes(far, page, moment, kind="heap"))
                self.assertLessEqual(role_span(far, page, moment)[1], moment)
                next_taken(far, page, moment)
            self.assertLess(time.process_time() - before, 30)


def wrong_roles():
    wrong = strange_objects() + [5, "heap", ("heap",), ("heap", 1, 2), ["heap", 1], ("log",), ("node", 1), ("node",)]
    wrong += [("waiting", 0), ("free", 0), ("waiting",), ("node", 1, 2, 3), (0, "heap"), ("Heap", 0), (b"heap", 0)]
    for told in numbers_but(0, None):
        wrong += [("heap", told), ("log", told), ("node", told, 0), ("node", 0, told)]
    for told in strange_objects():
        wrong += [(told, 0), (told, 0, 0)]
    return wrong + [("node", 111, 0), ("node", 110, 1), ("node", 0, ROWS), ("node", 10, ROWS // 2048 + 1)]


class WrongArgumentsTest(unittest.TestCase):

    def test_role_at_and_others(self):
        good = {"far": Far(EXAMPLE), "page": 4, "moment": 9}
        for call in [role_at, last_taken, next_taken, role_span]:
            check_refusals(self, call, good, [WRONG_FAR, WRONG_PAGE, WRONG_MOMENT])

    def test_page_with(self):
        good = {"far": Far(EXAMPLE), "role": ("node", 0, 2), "moment": 9}
        wrong = ("role", wrong_roles(), InvalidArgument, "role")
        check_refusals(self, page_with, good, [WRONG_FAR, wrong, WRONG_MOMENT])

    def test_takes_and_taken(self):
        for call, name, error in [(takes, "moment", InvalidNumber), (taken, "number", InvalidNumber)]:
            most = ROWS if name == "moment" else None
            for kind in KINDS:
                good = {"far": Far(EXAMPLE), "page": 4, name: 1, "kind": kind}
                wrong = [WRONG_FAR, WRONG_PAGE, (name, numbers_but(0, most), error, None), WRONG_KIND]
                check_refusals(self, lambda far, page, told=None, kind=None, **more: call(
                    far, page, more.get(name, told), kind=kind,
                ), good, wrong)
            with self.assertRaises(TypeError):
                call(Far(EXAMPLE), 4, 1, "heap")

    def test_home_and_homes(self):
        far = Far(EXAMPLE)
        last = Packing(EXAMPLE).page_of(ROWS - 1)
        wrong = ("number", numbers_but(0, last), InvalidPage, None)
        check_refusals(self, home, {"far": far, "number": last}, [WRONG_FAR, wrong])
        nodes = strange_objects() + [(0,), (0, 0, 0), [0, 0], (111, 0), (110, 1), (0, ROWS), (True, 0), (0, False), 5]
        nodes += [(told, 0) for told in numbers_but(0, 110)] + [(0, told) for told in numbers_but(0, None)]
        wrong = ("node", nodes, InvalidArgument, "node")
        check_refusals(self, homes, {"far": far, "node": (1, 0)}, [WRONG_FAR, wrong])


class InterfaceTest(unittest.TestCase):

    def test_each_function_stands_in_its_file(self):
        for call in [home, homes, last_taken, next_taken, page_with, role_at, role_span, taken, takes]:
            self.assertEqual(call.__module__, "keeprows.roles")
            self.assertIs(getattr(roles, call.__name__), call)

    def test_kinds_of_what_is_returned(self):
        far = Far(EXAMPLE)
        told = [
            role_at(far, 4, 9), page_with(far, ("heap", 3), 9), takes(far, 4, 12), taken(far, 4, 1), taken(far, 4, 1)[1],
            last_taken(far, 4, 8), next_taken(far, 1, 9), role_span(far, 4, 6), home(far, 3), homes(far, (1, 0)),
            homes(far, (1, 0))[0],
        ]
        self.assertEqual([type(one) for one in told], [
            tuple, int, int, tuple, tuple, tuple, tuple, tuple, int, list, tuple,
        ])
        homes(far, (1, 0)).clear()
        self.assertEqual(len(homes(far, (1, 0))), 2)


if __name__ == "__main__":
    unittest.main()
