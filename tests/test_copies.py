"""Copies of the tree: [67] to [70]."""

import time
import unittest
from random import Random

from keeprows import copies
from keeprows.copies import (
    Change, Copy, both, change, changed_by, content, copy_at, lessened, root_page, rows_in,
)
from keeprows.errors import InvalidArgument, InvalidNumber, InvalidPage
from keeprows.far import Far
from keeprows.packing import Packing

from model import PlainStore, far_settings, plain_copy
from plain import ROWS, make, strange_objects
from refusals import WRONG_MOMENT, WRONG_SETTINGS, check_refusals, numbers_but

EXAMPLE = make([1], 2, 2, 2, 4, 3)
OTHER = make([1], 2, 2, 2, 4, 4)


def plain_contents(store, placed):
    """The contents of a plain store's tree; placed has the rows that were put on each heap page, by its number."""
    contents = {}
    for number, page in store.heap_pages():
        contents[page] = ("heap", number, min(placed[number]), max(placed[number]) + 1)
    pages = {("node", level, number): page for level, number, page in store.node_pages()}
    pages.update({("heap", number): page for number, page in store.heap_pages()})
    for (level, number), children in store.families().items():
        told = []
        for child in children:
            told.append((child, pages[("heap", child)]) if level == 0 else (child[1], pages[("node", *child)]))
        contents[pages[("node", level, number)]] = ("node", level, number, tuple(sorted(told)))
    return contents


def far_placed(settings, moment):
    """The rows that were put on the newest heap pages behind so many rows, by page."""
    packing, placed = Packing(settings), {}
    for row in range(max(0, moment - 2 * settings.keep - 70), moment):
        placed.setdefault(packing.page_of(row), []).append(row)
    return placed


def stretches(chance, settings):
    """Moments near one another and far apart, earlier and later."""
    near = chance.randint(0, 300)
    far = chance.randint(0, ROWS - 1000)
    return [
        0, near, near + 1, near + chance.randint(0, 9), near + settings.every, far, far + 1,
        far + chance.randint(0, 2 * settings.every), far + settings.keep, ROWS, ROWS - 1,
    ]


def random_contents(chance, many):
    """Contents that no store has: pages of any levels as children, ways that meet, that go round, that end."""
    contents = {}
    for page in chance.sample(range(2 * many), many):
        if chance.randrange(3):
            children = [(chance.randint(0, 9), chance.randrange(2 * many)) for _ in range(chance.randint(0, 4))]
            contents[page] = ("node", chance.randint(0, 4), chance.randint(0, 9), tuple(sorted(children)))
        else:
            first = chance.randint(0, 40)
            contents[page] = ("heap", chance.randint(0, 9), first, first + chance.randint(0, 9))
    return contents


def plain_root(contents):
    nodes = {page: told[1] for page, told in contents.items() if told[0] == "node"}
    top = [page for page in nodes if nodes[page] == max(nodes.values())]
    return max(top) if top else None


def plain_rows(settings, moment, contents):
    """The rows in heap pages that are reached, adding pages until no more come."""
    reached = {plain_root(contents)} & set(contents)
    while True:
        more = {
            page for told in [contents[one] for one in reached] if told[0] == "node"
            for _, page in told[3] if page in contents
        }
        if more <= reached:
            break
        reached |= more
    rows = set()
    for told in [contents[one] for one in reached]:
        if told[0] == "heap":
            rows |= {row for row in range(max(0, moment - settings.keep), moment) if told[2] <= row < told[3]}
    return sorted(rows)


class ContentTest(unittest.TestCase):

    def check_moment(self, far, store, placed):
        moment = store.done
        contents = plain_contents(store, placed)
        for page in range(store.size + 2):
            self.assertEqual(content(far, moment, page), contents.get(page), (vars(far.settings), moment, page))
        copy = copy_at(far, moment)
        self.assertEqual(copy.contents, contents)
        self.assertEqual(list(copy.contents), sorted(contents))
        self.assertEqual(copy.done, moment)
        self.assertTrue(copy.settings == far.settings)
        self.assertTrue(copy == Copy(far.settings, moment, contents))
        self.assertEqual(rows_in(copy), list(range(max(0, moment - far.settings.keep), moment)))
        if moment:
            self.assertEqual(root_page(copy), store.root()[2])

    def test_the_first_rows(self):
        for settings in far_settings(401, 25):
            far, store, placed = Far(settings), PlainStore(settings), {}
            for _ in range(80):
                if store.done % 3 == 0:
                    self.check_moment(far, store, placed)
                store.step()
                placed.setdefault(store.newest, []).append(store.done - 1)

    def test_far_rows(self):
        chance = Random(402)
        for settings in far_settings(403, 20):
            far = Far(settings)
            for moment in [chance.randint(0, ROWS) for _ in range(3)] + [10 ** 9, ROWS]:
                store = plain_copy(settings, far.behind(moment))
                self.check_moment(far, store, far_placed(settings, moment))

    def test_other_pages(self):
        far = Far(EXAMPLE)
        for moment in [0, 6, ROWS]:
            for page in [1000, 10 ** 40]:
                self.assertIsNone(content(far, moment, page))
        self.assertIsNone(content(far, 0, 0))
        self.assertEqual(copy_at(far, 0).contents, {})


class CopyTest(unittest.TestCase):

    def test_parts_in_any_order(self):
        chance = Random(411)
        for settings in far_settings(412, 10):
            copy = copy_at(Far(settings), chance.randint(0, ROWS))
            pages = list(copy.contents)
            chance.shuffle(pages)
            other = Copy(settings, copy.done, {page: copy.contents[page] for page in pages})
            self.assertTrue(other == copy)
            self.assertEqual(list(other.contents), sorted(pages))

    def test_equal_to_nothing_else(self):
        copy = copy_at(Far(EXAMPLE), 6)
        less = {page: told for page, told in copy.contents.items() if page}
        for other in [
            Copy(EXAMPLE, 7, copy.contents), Copy(OTHER, 6, copy.contents), Copy(EXAMPLE, 6, less),
            Copy(EXAMPLE, 6, {**copy.contents, 0: ("heap", 2, 4, 5)}), None, 6, copy.contents, Change(EXAMPLE, 6, 6, {}, []),
        ]:
            self.assertFalse(copy == other)
            self.assertTrue(copy != other)
        self.assertFalse(copy != Copy(EXAMPLE, 6, copy.contents))

    def test_what_is_passed_in_is_not_kept(self):
        contents = dict(copy_at(Far(EXAMPLE), 6).contents)
        kept, copy = dict(contents), Copy(EXAMPLE, 6, contents)
        contents.clear()
        self.assertEqual(copy.contents, kept)
        gone = [7, 3, 7]
        told = Change(EXAMPLE, 6, 8, kept, gone)
        gone.clear()
        kept.clear()
        self.assertEqual([told.gone, len(told.contents)], [[3, 7], 5])

    def test_any_contents(self):
        chance = Random(413)
        for _ in range(1500):
            settings = make([1], 2, 2, 2, 4, chance.randint(1, 60))
            contents, moment = random_contents(chance, chance.randint(0, 12)), chance.randint(0, 60)
            copy = Copy(settings, moment, contents)
            self.assertEqual(root_page(copy), plain_root(contents))
            self.assertEqual(rows_in(copy), plain_rows(settings, moment, contents))
            self.assertEqual(copy.contents, contents)

    def test_strange_contents(self):
        rows = ("heap", 0, 0, 10 ** 40)
        self.assertEqual(rows_in(Copy(EXAMPLE, 9, {5: ("node", 900, 0, ((0, 5), (0, 7))), 7: rows})), [6, 7, 8])
        self.assertEqual(rows_in(Copy(EXAMPLE, ROWS, {5: ("node", 0, 0, ((0, 7),)), 7: rows}))[0], ROWS - 3)
        self.assertEqual(rows_in(Copy(EXAMPLE, 9, {7: rows})), [])
        self.assertIsNone(root_page(Copy(EXAMPLE, 9, {7: rows})))
        self.assertEqual(root_page(Copy(EXAMPLE, 0, {5: ("node", 3, 9, ()), 8: ("node", 3, 2, ())})), 8)
        self.assertEqual(rows_in(Copy(EXAMPLE, 9, {5: ("node", 0, 0, ((3, 7),)), 7: ("heap", 1, 8, 7)})), [])

    def test_a_long_way(self):
        contents = {page: ("node", 0, page, ((0, page - 1),)) for page in range(1, 3000)}
        contents[0] = ("heap", 0, 3, 5)
        self.assertEqual(rows_in(Copy(EXAMPLE, 6, contents)), [3, 4])


class ChangeTest(unittest.TestCase):

    def check_change(self, far, one, other):
        before, behind = copy_at(far, one), copy_at(far, other)
        told = change(far, one, other)
        self.assertEqual([told.from_done, told.to_done], [one, other])
        self.assertTrue(told.settings == far.settings)
        new = {page: told for page, told in behind.contents.items() if before.contents.get(page) != told}
        self.assertEqual(told.contents, new)
        self.assertEqual(list(told.contents), sorted(new))
        self.assertEqual(told.gone, sorted(set(before.contents) - set(behind.contents)))
        self.assertTrue(changed_by(before, told) == behind)
        self.assertTrue(lessened(before, told) == told)
        for page in told.contents:
            less = {other: told.contents[other] for other in told.contents if other != page}
            fewer = Change(far.settings, one, other, less, told.gone)
            self.assertFalse(changed_by(before, fewer) == behind)

    def test_near_and_far(self):
        chance = Random(421)
        for settings in far_settings(422, 12, 40):
            far, found = Far(settings), stretches(chance, settings)
            for _ in range(25):
                self.check_change(far, chance.choice(found), chance.choice(found))

    def test_two_changes(self):
        chance = Random(423)
        for settings in far_settings(424, 12, 40):
            far, found = Far(settings), stretches(chance, settings)
            for _ in range(25):
                one, two, three = chance.choices(found, k=3)
                start = copy_at(far, one)
                first, second = change(far, one, two), change(far, two, three)
                told = both(first, second)
                self.assertTrue(changed_by(start, told) == copy_at(far, three))
                self.assertTrue(lessened(start, told) == change(far, one, three))
                self.assertEqual([told.from_done, told.to_done], [one, three])

    def random_change(self, chance, start, goal):
        contents = random_contents(chance, chance.randint(0, 6))
        return Change(EXAMPLE, start, goal, contents, [chance.randrange(12) for _ in range(chance.randint(0, 6))])

    def test_any_changes(self):
        chance = Random(425)
        for _ in range(800):
            one, other = self.random_change(chance, 3, 5), self.random_change(chance, 5, 2)
            copy = Copy(EXAMPLE, 3, random_contents(chance, 6))
            new = {page: told for page, told in copy.contents.items() if page not in one.gone}
            new.update(one.contents)
            self.assertTrue(changed_by(copy, one) == Copy(EXAMPLE, 5, new))
            told = both(one, other)
            left = {page: one.contents[page] for page in one.contents if page not in other.gone}
            self.assertEqual(told.contents, {**left, **other.contents})
            gone = set(other.gone) | (set(one.gone) - set(other.contents))
            self.assertEqual(told.gone, sorted(gone))
            self.assertEqual(list(told.contents), sorted(told.contents))
            less = lessened(copy, one)
            self.assertEqual(less.gone, [page for page in one.gone if page in copy.contents])
            self.assertEqual(
                less.contents, {page: told for page, told in one.contents.items() if copy.contents.get(page) != told},
            )
            self.assertEqual([less.from_done, less.to_done], [3, 5])

    def test_equal_to_nothing_else(self):
        far = Far(EXAMPLE)
        told = change(far, 4, 6)
        parts = {"settings": EXAMPLE, "start": 4, "goal": 6, "contents": told.contents, "gone": told.gone}
        self.assertTrue(told == Change(**parts))
        self.assertTrue(told == Change(*parts.values()))
        for name, other in [
            ("settings", OTHER), ("start", 5), ("goal", 7), ("contents", {}), ("gone", []), ("gone", [1, 3]),
        ]:
            self.assertFalse(told == Change(**{**parts, name: other}))
            self.assertTrue(told != Change(**{**parts, name: other}))
        for other in [None, copy_at(far, 6), told.contents, 4]:
            self.assertFalse(told == other)

    def test_what_does_not_fit(self):
        far = Far(EXAMPLE)
        other = Far(OTHER)
        copy = copy_at(far, 6)
        for given in [change(far, 7, 6), change(far, 4, 6), change(other, 6, 8)]:
            for call in [changed_by, lessened]:
                with self.assertRaises(InvalidArgument) as caught:
                    call(copy, given)
                self.assertEqual(caught.exception.part, "change")
        for one, two in [
            (change(far, 4, 6), change(far, 7, 8)), (change(far, 4, 6), change(other, 6, 8)),
            (change(far, 4, 6), change(far, 4, 6)),
        ]:
            with self.assertRaises(InvalidArgument) as caught:
                both(one, two)
            self.assertEqual(caught.exception.part, "change")

    def test_what_is_passed_in_stays_as_it_is(self):
        far = Far(EXAMPLE)
        copy, one, other = copy_at(far, 4), change(far, 4, 6), change(far, 6, 9)
        kept = [dict(copy.contents), dict(one.contents), list(one.gone), dict(other.contents), list(other.gone)]
        for told in [changed_by(copy, one), both(one, other), lessened(copy, one)]:
            told.contents.clear()
            getattr(told, "gone", []).clear()
        self.assertEqual([copy.contents, one.contents, one.gone, other.contents, other.gone], kept)


class SpeedTest(unittest.TestCase):

    def test_some_hundred_far_questions(self):
        chance = Random(431)
        for settings in [EXAMPLE, make([1], 64, 8, 16, 40, 100)]:
            far, before = Far(settings), time.process_time()
            for _ in range(100):
                one, other = [ROWS - chance.randint(1, 10 ** 29) for _ in range(2)]
                self.assertEqual(changed_by(copy_at(far, one), change(far, one, other)).done, other)
            self.assertLess(time.process_time() - before, 30)


def wrong_contents():
    wrong = [told for told in strange_objects() if told != {}] + [5, [(1, ("heap", 0, 0, 1))], ((1, 2),)]
    for told in strange_objects() + [5, -1, ("heap", 1, 2), ("heap", 1, 2, 3, 4), ["heap", 1, 2, 3], ("log", 1, 2, 3)]:
        wrong.append({1: told})
    for told in numbers_but(0, None):
        wrong += [{1: ("heap", told, 2, 3)}, {1: ("heap", 1, told, 3)}, {1: ("heap", 1, 2, told)}]
        wrong += [{1: ("node", told, 0, ())}, {1: ("node", 0, told, ())}, {1: ("node", 0, 0, ((told, 1),))}]
        wrong += [{1: ("node", 0, 0, ((1, told),))}, {1: ("node", 0, 0, ((1, 1), (1, told)))}]
        try:
            wrong.append({told: ("heap", 1, 2, 3), 5: ("heap", 1, 2, 3)})
        except TypeError:
            continue
    for told in strange_objects() + [5, "ab", ((1,),), ((1, 2, 3),), ([1, 2],), [(1, 2)], (1, 2)]:
        if told != ():
            wrong.append({1: ("node", 0, 0, told)})
    for told in strange_objects() + ["Heap", "nodes", b"heap"]:
        wrong += [{1: (told, 1, 2, 3)}, {1: (told, 1, 2, ())}]
    return wrong + [{-1: ("heap", 1, 2, 3)}, {1.0: ("heap", 1, 2, 3)}, {"1": ("heap", 1, 2, 3)}]


class WrongArgumentsTest(unittest.TestCase):

    def test_content(self):
        wrong = ("page", numbers_but(0, None), InvalidPage, None)
        check_refusals(self, content, {"far": Far(EXAMPLE), "moment": 6, "page": 0}, [WRONG_MOMENT, wrong])

    def test_copy_at_and_change(self):
        far = Far(EXAMPLE)
        check_refusals(self, copy_at, {"far": far, "moment": 6}, [WRONG_MOMENT])
        check_refusals(self, change, {"far": far, "one": 6, "other": 4}, [
            ("one", numbers_but(0, ROWS), InvalidNumber, None), ("other", numbers_but(0, ROWS), InvalidNumber, None),
        ])

    def test_made_of_parts(self):
        contents = copy_at(Far(EXAMPLE), 6).contents
        wrong = ("contents", wrong_contents(), InvalidArgument, "contents")
        good = {"settings": EXAMPLE, "moment": 6, "contents": contents}
        check_refusals(self, Copy, good, [WRONG_SETTINGS, WRONG_MOMENT, wrong])
        gone = [told for told in strange_objects() if told not in ([], [5])] + [5, (1, 2), {1: 2}]
        gone += [[told] for told in numbers_but(0, None)] + [[3, told] for told in numbers_but(0, None)]
        good = {"settings": EXAMPLE, "start": 6, "goal": 4, "contents": contents, "gone": [5, 3]}
        check_refusals(self, Change, good, [
            WRONG_SETTINGS, ("start", numbers_but(0, ROWS), InvalidNumber, None),
            ("goal", numbers_but(0, ROWS), InvalidNumber, None), wrong,
            ("gone", gone, InvalidArgument, "gone"),
        ])

    def test_what_is_no_change_and_no_copy(self):
        far = Far(EXAMPLE)
        copy, told = copy_at(far, 4), change(far, 4, 6)
        for wrong in strange_objects() + [copy]:
            for call in [changed_by, lessened]:
                with self.assertRaises(InvalidArgument):
                    call(copy, wrong)
            for pair in [(told, wrong), (wrong, told)]:
                with self.assertRaises(InvalidArgument):
                    both(*pair)


class InterfaceTest(unittest.TestCase):

    def test_each_function_stands_in_its_file(self):
        for call in [Change, Copy, both, change, changed_by, content, copy_at, lessened, root_page, rows_in]:
            self.assertEqual(call.__module__, "keeprows.copies")
            self.assertIs(getattr(copies, call.__name__), call)
        self.assertTrue("__eq__" in vars(Copy) and "__eq__" in vars(Change))

    def test_kinds_and_names(self):
        far = Far(EXAMPLE)
        copy, told = copy_at(far, 6), change(far=far, one=4, other=6)
        self.assertEqual(list(vars(copy)), ["settings", "done", "contents"])
        self.assertEqual(list(vars(told)), ["settings", "from_done", "to_done", "contents", "gone"])
        self.assertEqual([type(copy.contents), type(told.contents), type(told.gone)], [dict, dict, list])
        self.assertEqual([type(rows_in(copy=copy)), type(root_page(copy=copy))], [list, int])
        self.assertTrue(changed_by(copy=copy_at(far, 4), given=told) == copy)
        self.assertTrue(lessened(copy=copy_at(far=far, moment=4), given=told) == told)
        self.assertEqual(both(one=told, other=change(far, 6, 4)).to_done, 4)
        self.assertEqual(content(far=far, moment=6, page=0), ("heap", 2, 4, 6))


if __name__ == "__main__":
    unittest.main()
