"""Scans: [71] to [74]."""

import time
import unittest
from random import Random

from keeprows import scans
from keeprows.errors import InvalidArgument, InvalidNumber, InvalidPage, InvalidRow
from keeprows.far import Far
from keeprows.packing import Packing
from keeprows.phases import blocks
from keeprows.roles import home
from keeprows.scans import Scans, jumps
from keeprows.stores import Store

from model import PlainStore, far_settings, newest_rows, plain_copy
from plain import ROWS, make, strange_objects
from refusals import WRONG_MOMENT, check_refusals, fars_but, numbers_but

EXAMPLE = make([1], 2, 2, 2, 4, 3)


def plain_jumps(pages):
    steps = [later - page for page, later in zip(pages, pages[1:])]
    return sum(step != 1 for step in steps), sum(abs(step) for step in steps)


def plain_scan(store, first, last):
    """The pages that are read by the index, from the root down, node by node."""
    numbers = dict(store.rows)
    chosen = {numbers[row] for row in range(first, last + 1)}
    families = store.families()

    def leaves(node):
        below = families[node]
        return set(below) if node[0] == 0 else set().union(*(leaves(child) for child in below))

    def read(node):
        pages = [store.page_for[("node", *node)]]
        for child in families[node]:
            if node[0] == 0 and child in chosen:
                pages.append(store.page_for[("heap", child)])
            if node[0] and leaves(child) & chosen:
                pages += read(child)
        return pages

    return read(store.root()[:2])


def homes_of(settings, many):
    """The pages of the first heap pages, row by row."""
    store, pages = Store(settings), []
    while len(pages) < many:
        pages += [event[1] for event in store.step() if event[0] == "take" and event[2][0] == "heap"]
    return pages[:many]


def far_homes(settings, far, number, many):
    """The pages of some heap pages from a number on, by plain rows, up to the last row."""
    start = Packing(settings).first_row(number)
    store = plain_copy(settings, far.behind(start))
    pages = []
    while len(pages) < many and store.done < ROWS:
        pages += [event[1] for event in store.step() if event[0] == "take" and event[2][0] == "heap"]
    return pages


class JumpsTest(unittest.TestCase):

    def test_any_lists(self):
        chance = Random(801)
        for _ in range(500):
            pages = [chance.randint(0, chance.choice([2, 5, 50, 10 ** 40])) for _ in range(chance.randint(0, 12))]
            kept = list(pages)
            self.assertEqual(jumps(pages), plain_jumps(pages))
            self.assertEqual(pages, kept)

    def test_told_by_hand(self):
        for pages, told in [
            ([], (0, 0)), ([7], (0, 0)), ([7, 7], (1, 0)), ([7, 8], (0, 1)), ([8, 7], (1, 1)), ([3, 4, 5, 6], (0, 3)),
            ([3, 5], (1, 2)), ([0, 0, 1, 1], (2, 1)), ([10 ** 40, 0], (1, 10 ** 40)),
        ]:
            self.assertEqual(jumps(pages), told)
            self.assertEqual(jumps(pages=pages), told)


class ReadTest(unittest.TestCase):

    def check_moment(self, found, store, pairs):
        moment = store.done
        self.assertEqual(found.row_scan(moment), [page for _, page in store.heap_pages()])
        for first, last in pairs:
            self.assertEqual(found.index_scan(moment, first, last), plain_scan(store, first, last))

    def test_all_pairs_near(self):
        for settings in far_settings(811, 14, 12, 12):
            found, store = Scans(Far(settings)), PlainStore(settings)
            self.assertEqual(found.row_scan(0), [])
            for _ in range(60):
                store.step()
                if store.done % 4 == 0:
                    rows = newest_rows(settings, store.done)
                    self.check_moment(found, store, [(one, two) for one in rows for two in rows if one <= two])

    def test_some_pairs_near_and_far(self):
        chance = Random(812)
        for settings in far_settings(813, 20):
            far, packing = Far(settings), Packing(settings)
            found, last = Scans(far), packing.page_of(ROWS - 1)
            moments = [chance.randint(1, 300), chance.randint(1, ROWS), ROWS]
            while len(moments) < 5:
                step = settings.fanout ** chance.randint(3, 99)
                if step <= last:
                    row = packing.first_row(chance.randint(1, last // step) * step)
                    moments.append(row + chance.randint(1, settings.keep))
            for moment in [min(moment, ROWS) for moment in moments]:
                rows, store = newest_rows(settings, moment), plain_copy(settings, far.behind(moment))
                pairs = [sorted([chance.choice(rows), chance.choice(rows)]) for _ in range(6)]
                self.check_moment(found, store, pairs + [(rows[0], rows[-1]), (rows[0], rows[0])])

    def test_one_row_is_its_path(self):
        far = Far(EXAMPLE)
        for moment in [1, 9, 10 ** 20, ROWS]:
            book = far.behind(moment)
            for row in newest_rows(EXAMPLE, moment):
                self.assertEqual(Scans(far).index_scan(moment, row, row), book.path(row))


class SumTest(unittest.TestCase):

    def test_the_first_heap_pages(self):
        chance = Random(821)
        for settings in far_settings(822, 40):
            pages, found = homes_of(settings, 500), Scans(Far(settings))
            pairs = [(0, 0), (0, 499), (499, 499), (17, 18), (0, 1)]
            while len(pairs) < 25:
                pairs.append(sorted([chance.randrange(500), chance.randrange(500)]))
            for first, last in pairs:
                told = found.jump_sum(first, last)
                self.assertEqual(told, plain_jumps(pages[first:last + 1]), (vars(settings), first, last))

    def test_many_small_blocks(self):
        chance = Random(823)
        for settings in [make([1], 1, 2, 1, 1, 1), make([1], 64, 2, 3, 8, 1), make([1, 2, 1], 2, 3, 2, 3, 2), EXAMPLE]:
            pages, found = homes_of(settings, 6000), Scans(Far(settings))
            for _ in range(40):
                first, last = sorted([chance.randrange(6000), chance.randrange(6000)])
                self.assertEqual(found.jump_sum(first, last), plain_jumps(pages[first:last + 1]))

    def test_far_heap_pages(self):
        chance = Random(824)
        for settings in far_settings(825, 12, 30, 15):
            far, width = Far(settings), blocks(settings)[0]
            found, last = Scans(far), Packing(settings).page_of(ROWS - 1)
            for number in self.far_numbers(settings, chance, last, 3) + [last - 2 * width]:
                pages = far_homes(settings, far, number, 3 * width + 9)
                for _ in range(6):
                    one, two = sorted([chance.randrange(len(pages)), chance.randrange(len(pages))])
                    told = found.jump_sum(number + one, number + two)
                    self.assertEqual(told, plain_jumps(pages[one:two + 1]))

    def far_numbers(self, settings, chance, last, many):
        """Numbers of heap pages, about blocks that end with many zeros."""
        width, numbers = blocks(settings)[0], []
        while len(numbers) < many:
            step = width * settings.fanout ** chance.randint(1, 50)
            if 2 * step < last:
                numbers.append(chance.randint(1, last // step - 1) * step - chance.randint(0, width + 3))
        return numbers

    def test_far_sums_add_up_of_parts(self):
        chance = Random(826)
        for settings in far_settings(827, 4, 20, 8) + [EXAMPLE, make([1], 64, 8, 16, 40, 100)]:
            found, last = Scans(Far(settings)), Packing(settings).page_of(ROWS - 1)
            for most in [last, 10 ** 20]:
                cuts = sorted([0, most] + [chance.randint(0, 10 ** chance.randint(1, 29)) for _ in range(5)])
                cuts = [min(cut, most) for cut in cuts]
                parts = [found.jump_sum(first, later) for first, later in zip(cuts, cuts[1:])]
                self.assertEqual(found.jump_sum(0, most), (sum(told[0] for told in parts), sum(told[1] for told in parts)))
            self.assertEqual(found.jump_sum(last, last), (0, 0))

    def test_one_step(self):
        chance = Random(828)
        for settings in far_settings(829, 6, 30, 15):
            far = Far(settings)
            found, last = Scans(far), Packing(settings).page_of(ROWS - 1)
            for number in [0, 5, last - 1] + [chance.randint(0, last - 1) for _ in range(5)]:
                pages = [home(far, number), home(far, number + 1)]
                self.assertEqual(found.jump_sum(number, number + 1), plain_jumps(pages))


class StraightTest(unittest.TestCase):

    def straight(self, pages):
        return [at for at in range(len(pages) - 1) if pages[at + 1] == pages[at] + 1]

    def test_the_first_heap_pages(self):
        for settings in far_settings(831, 40):
            pages, found = homes_of(settings, 500), Scans(Far(settings))
            told = self.straight(pages)
            for first in range(0, 499, 7):
                later = [number for number in told if number >= first]
                number = found.next_straight(first)
                if later:
                    self.assertEqual(number, later[0], (vars(settings), first))
                else:
                    self.assertTrue(number is None or number >= 499)

    def test_far_ones(self):
        chance = Random(832)
        found_some = 0
        for settings in far_settings(833, 25, 60):
            far = Far(settings)
            found, last = Scans(far), Packing(settings).page_of(ROWS - 1)
            for first in [chance.randint(0, last) for _ in range(6)] + [10 ** 9]:
                number = found.next_straight(first)
                if number is None:
                    continue
                found_some += 1
                self.assertGreaterEqual(number, first)
                self.assertEqual(home(far, number + 1), home(far, number) + 1)
                # All heap pages ahead of it jump.
                self.assertEqual(found.jump_sum(first, number)[0], number - first)
                self.assertEqual(found.jump_sum(first, number + 1)[0], number - first)
                if number - first < 3000:
                    pages = far_homes(settings, far, first, number - first + 2)
                    self.assertEqual(self.straight(pages), [number - first])
        self.assertGreater(found_some, 100)

    def test_near_the_last_heap_page(self):
        nones = 0
        for settings in far_settings(834, 20, 40):
            far = Far(settings)
            found, last = Scans(far), Packing(settings).page_of(ROWS - 1)
            pages = far_homes(settings, far, last - 60, 61)
            self.assertEqual(len(pages), 61)
            told = self.straight(pages)
            for first in range(61):
                later = [last - 60 + at for at in told if at >= first]
                nones += not later
                self.assertEqual(found.next_straight(last - 60 + first), later[0] if later else None)
        self.assertGreater(nones, 30)

    def test_a_store_without_straight_ones(self):
        # One row on each heap page, one row kept, a checkpoint behind each row: two pages in turn.
        settings = make([1], 1, 8, 1, 1, 1)
        found = Scans(Far(settings))
        told = self.straight(homes_of(settings, 4000))
        number = found.next_straight(0)
        self.assertEqual(number if number is None or number < 3999 else None, told[0] if told else None)


class SpeedTest(unittest.TestCase):

    def test_some_hundred_far_questions(self):
        chance = Random(841)
        for settings in [EXAMPLE, make([1], 64, 8, 16, 40, 100)]:
            found, last = Scans(Far(settings)), Packing(settings).page_of(ROWS - 1)
            before = time.process_time()
            for _ in range(100):
                first = chance.randint(0, last)
                self.assertGreaterEqual(found.jump_sum(first, last)[1], 0)
                number = found.next_straight(first)
                self.assertTrue(number is None or number >= first)
            self.assertLess(time.process_time() - before, 60)


class WrongArgumentsTest(unittest.TestCase):

    def test_jumps(self):
        wrong = [told for told in strange_objects() if told not in ([], [5])] + [5, (1, 2), {1: 2}, "12"]
        wrong += [[told] for told in numbers_but(0, None)] + [[3, told, 4] for told in numbers_but(0, None)]
        check_refusals(self, jumps, {"pages": [1, 2]}, [("pages", wrong, InvalidArgument, "pages")])

    def test_scans(self):
        check_refusals(self, Scans, {"far": Far(EXAMPLE)}, [("far", fars_but(), InvalidArgument, "far")])

    def test_row_scan_and_index_scan(self):
        found = Scans(Far(EXAMPLE))
        check_refusals(self, found.row_scan, {"moment": 9}, [WRONG_MOMENT])
        for moment in [9, 2, ROWS]:
            least = max(0, moment - 3)
            for first in range(least, moment):
                check_refusals(self, found.index_scan, {"moment": moment, "first": first, "last": moment - 1}, [
                    WRONG_MOMENT, ("first", numbers_but(least, moment - 1), InvalidRow, None),
                    ("last", numbers_but(first, moment - 1), InvalidRow, None),
                ])
        for told in [0, -1, 1]:
            with self.assertRaises(InvalidRow) as caught:
                found.index_scan(0, told, told)
            self.assertEqual(caught.exception.row, told)

    def test_jump_sum_and_next_straight(self):
        found, last = Scans(Far(EXAMPLE)), Packing(EXAMPLE).page_of(ROWS - 1)
        for first in [0, 5, last]:
            check_refusals(self, found.jump_sum, {"first": first, "last": last}, [
                ("first", numbers_but(0, last), InvalidPage, None), ("last", numbers_but(first, last), InvalidPage, None),
            ])
            check_refusals(self, found.next_straight, {"first": first}, [
                ("first", numbers_but(0, last), InvalidPage, None),
            ])

    def test_the_first_error_first(self):
        found = Scans(Far(EXAMPLE))
        with self.assertRaises(InvalidNumber):
            found.index_scan(-1, None, None)
        with self.assertRaises(InvalidPage) as caught:
            found.jump_sum(None, -1)
        self.assertIsNone(caught.exception.page)


class InterfaceTest(unittest.TestCase):

    def test_each_one_stands_in_its_file(self):
        for call in [jumps, Scans]:
            self.assertEqual(call.__module__, "keeprows.scans")
            self.assertIs(getattr(scans, call.__name__), call)
        for name in ["row_scan", "index_scan", "jump_sum", "next_straight"]:
            self.assertIn(name, vars(Scans))

    def test_kinds_of_what_is_returned(self):
        found = Scans(Far(EXAMPLE))
        told = [found.row_scan(9), found.index_scan(9, 6, 8), found.jump_sum(0, 5), found.next_straight(0), jumps([1])]
        self.assertEqual([type(one) for one in told], [list, list, tuple, int, tuple])
        found.row_scan(9).clear()
        self.assertEqual(found.row_scan(9), [8, 3])

    def test_other_questions_change_nothing(self):
        far = Far(EXAMPLE)
        found = Scans(far)
        told = [found.jump_sum(0, 5), found.index_scan(9, 6, 8), found.next_straight(3)]
        found.jump_sum(0, 10 ** 29)
        far.behind(10 ** 29)
        Scans(far).next_straight(10 ** 20)
        self.assertEqual([found.jump_sum(0, 5), found.index_scan(9, 6, 8), found.next_straight(3)], told)


if __name__ == "__main__":
    unittest.main()
