"""Packing: [10] to [14], the wrong objects of [7] and [11], and what [2] says of them."""

import sys
import unittest
from random import Random

from keeprows.errors import InvalidNumber, InvalidPage, InvalidRow, InvalidSettings, StoreError
from keeprows.packing import Packing
from keeprows.settings import Settings

from plain import (
    MANY_PAGES, ROWS, count_page, count_pages, count_rows, make, other_packings, packings, search_cycle, strange_objects,
)

METHODS = ["page_of", "first_row", "rows_on", "units_on", "units_left", "begun", "cycle"]


def steps_of(call, argument):
    """How many lines of Python a call runs through: a measure of time without a clock."""
    steps = 0

    def count(frame, event, told):
        nonlocal steps
        steps += event == "line"
        return count

    before = sys.gettrace()
    sys.settrace(count)
    try:
        call(argument)
    finally:
        sys.settrace(before)
    return steps


class NearTest(unittest.TestCase):

    def test_rows_put_one_by_one(self):
        for lengths, size in packings():
            packing = Packing(make(lengths, size))
            self.assertEqual(packing.begun(0), 0)
            for row, page, left in count_rows(lengths, size, 0, 0, 220):
                told = (packing.page_of(row), packing.units_left(row), packing.begun(row + 1))
                self.assertEqual(told, (page, left, page + 1), (lengths, size, row))

    def test_heap_pages_filled_one_by_one(self):
        for lengths, size in packings():
            packing = Packing(make(lengths, size))
            for page, told in enumerate(count_pages(lengths, size, MANY_PAGES)):
                found = (packing.first_row(page), packing.rows_on(page), packing.units_on(page))
                self.assertEqual(found, told, (lengths, size, page))

    def test_the_other_settings_do_not_matter(self):
        plain = Packing(make([5, 3, 2], 11))
        for other in [make([5, 3, 2], 11, 8, 16, 40, 100), make([5, 3, 2], 11, 2, 1, 1, 1)]:
            packing = Packing(other)
            self.assertEqual(packing.cycle(), plain.cycle())
            for row in list(range(100)) + [ROWS - 1]:
                self.assertEqual(packing.page_of(row), plain.page_of(row))

    def test_the_list_of_the_settings_is_not_kept(self):
        lengths = [2, 1, 3]
        packing = Packing(make(lengths, 5))
        lengths[:] = [5, 5]
        self.assertEqual([packing.page_of(row) for row in range(6)], [0, 0, 1, 1, 2, 2])


class ExampleTest(unittest.TestCase):

    def test_the_example(self):
        packing = Packing(Settings([2, 1, 3], 5, fanout=2, records=3, every=4, keep=9))
        self.assertEqual(packing.cycle(), (0, 3, 6))
        self.assertEqual([packing.first_row(page) for page in range(5)], [0, 2, 4, 6, 8])
        self.assertEqual([packing.units_on(1), packing.units_left(2)], [5, 2])
        self.assertEqual(packing.page_of(10 ** 29), 50000000000000000000000000000)
        self.assertEqual([packing.begun(7), packing.rows_on(0)], [4, 2])


class CycleTest(unittest.TestCase):

    def test_the_cycle_as_a_plain_search_finds_it(self):
        firsts, many = set(), set()
        for lengths, size in packings():
            cycle = Packing(make(lengths, size)).cycle()
            self.assertIs(type(cycle), tuple)
            self.assertEqual(cycle, search_cycle(lengths, size), (lengths, size))
            firsts.add(cycle[0])
            many.add(cycle[1])
        # The settings tried are of all kinds: ones that come again at once, and late ones.
        self.assertEqual((sorted(firsts), sorted(many)), ([0, 1, 2, 3, 4, 5], [1, 2, 3, 4, 5, 6]))

    def test_cycles_told_by_hand(self):
        for lengths, size, cycle in [
            ([1], 1, (0, 1, 1)), ([1], 64, (0, 1, 64)), ([64] * 6, 64, (0, 6, 6)), ([1, 1], 1, (0, 2, 2)),
            ([1, 1], 3, (0, 2, 6)), ([2, 1, 1], 2, (0, 2, 3)), ([1, 2], 2, (0, 2, 2)), ([1, 1, 2], 3, (0, 3, 6)),
            ([1, 2, 1], 2, (1, 2, 3)),
        ]:
            self.assertEqual(Packing(make(lengths, size)).cycle(), cycle, (lengths, size))


class FarTest(unittest.TestCase):

    def far_pages(self, packing, chance):
        """Numbers of heap pages: far ones, and those around the last one."""
        last = packing.begun(ROWS) - 1
        return [last - back for back in range(15)] + [chance.randint(0, last) for _ in range(10)] + [last // 2]

    def test_far_heap_pages_are_as_the_cycle_tells(self):
        chance = Random(11)
        for lengths, size in packings():
            packing = Packing(make(lengths, size))
            first, many, rows = search_cycle(lengths, size)
            near = count_pages(lengths, size, first + many)
            for page in self.far_pages(packing, chance):
                turns = max(0, (page - first) // many)
                start, found, units = near[page - turns * many]
                told = (packing.first_row(page), packing.rows_on(page), packing.units_on(page))
                self.assertEqual(told, (start + turns * rows, found, units), (lengths, size, page))

    def test_far_rows_put_one_by_one(self):
        chance = Random(12)
        for lengths, size in other_packings():
            packing = Packing(make(lengths, size))
            for page in [packing.begun(ROWS) - 10, packing.begun(ROWS) // 3, chance.randint(0, packing.begun(ROWS) - 1)]:
                start = packing.first_row(page)
                for row, number, left in count_rows(lengths, size, start, page, 100):
                    if row < ROWS:
                        told = (packing.page_of(row), packing.units_left(row), packing.begun(row + 1))
                        self.assertEqual(told, (number, left, number + 1), (lengths, size, row))

    def test_neighbouring_heap_pages_fit_together(self):
        chance = Random(13)
        for lengths, size in packings():
            packing = Packing(make(lengths, size))
            last = packing.begun(ROWS) - 1
            for page in list(range(8)) + self.far_pages(packing, chance):
                start, after = packing.first_row(page), packing.first_row(page) + packing.rows_on(page)
                self.assertEqual(packing.page_of(start), page)
                if page > 0:
                    self.assertEqual(packing.page_of(start - 1), page - 1)
                    self.assertLess(packing.units_left(start - 1), lengths[start % len(lengths)])
                if page < last:
                    self.assertEqual(packing.first_row(page + 1), after)
                    self.assertEqual(packing.page_of(after - 1), page)
                    self.assertEqual(packing.units_left(after - 1), size - packing.units_on(page))

    def test_the_last_heap_page_gets_all_its_rows(self):
        beyond = 0
        for lengths, size in packings():
            packing = Packing(make(lengths, size))
            last = packing.page_of(ROWS - 1)
            self.assertEqual(packing.begun(ROWS), last + 1)
            told = (packing.first_row(last), packing.rows_on(last), packing.units_on(last))
            self.assertEqual(told, count_page(lengths, size, packing.first_row(last)))
            self.assertLess(told[0], ROWS)
            self.assertGreaterEqual(told[0] + told[1], ROWS)
            beyond += told[0] + told[1] > ROWS
        self.assertGreater(beyond, 100)

    def test_last_heap_pages_told_by_hand(self):
        # 10 ** 30 leaves 1 when it is divided by 7, or by 9, and nothing when it is divided by 64.
        packing = Packing(make([1], 7))
        self.assertEqual(packing.first_row(ROWS // 7), ROWS - 1)
        self.assertEqual([packing.rows_on(ROWS // 7), packing.units_on(ROWS // 7)], [7, 7])
        self.assertEqual([packing.units_left(ROWS - 1), packing.begun(ROWS)], [6, ROWS // 7 + 1])
        packing = Packing(make([1], 64))
        self.assertEqual(packing.first_row(ROWS // 64 - 1), ROWS - 64)
        self.assertEqual([packing.units_left(ROWS - 1), packing.begun(ROWS)], [0, ROWS // 64])

    def test_far_is_as_quick_as_near(self):
        for lengths, size in other_packings()[:80]:
            packing = Packing(make(lengths, size))
            last = packing.begun(ROWS) - 1
            for call, most in [
                (packing.page_of, ROWS - 1), (packing.units_left, ROWS - 1), (packing.begun, ROWS),
                (packing.first_row, last), (packing.rows_on, last), (packing.units_on, last),
            ]:
                near = max([steps_of(call, argument) for argument in range(1, 200, 3)])
                for back in range(0, 50, 7):
                    self.assertLessEqual(steps_of(call, most - back), 2 * near + 20, (lengths, size))


class WrongArgumentsTest(unittest.TestCase):

    def check_refused(self, call, told, error, attribute):
        with self.assertRaises(StoreError) as caught:
            call(told)
        self.assertIs(type(caught.exception), error)
        self.assertIs(getattr(caught.exception, attribute), told)

    def test_what_is_no_settings(self):
        others = [told for told in strange_objects() if not isinstance(told, Settings)]
        others += [0, 5, [2, 1, 3], ([2, 1, 3], 5), {"lengths": [1], "size": 1}, "settings"]
        for told in others:
            with self.assertRaises(StoreError) as caught:
                Packing(told)
            self.assertIs(type(caught.exception), InvalidSettings)
            self.assertEqual(caught.exception.part, "settings")

    def test_what_is_no_row(self):
        packing = Packing(make([2, 1, 3], 5))
        for told in strange_objects() + [-1, -2, -ROWS, ROWS, ROWS + 1, 10 ** 60]:
            self.check_refused(packing.page_of, told, InvalidRow, "row")
            self.check_refused(packing.units_left, told, InvalidRow, "row")

    def test_what_is_no_moment(self):
        packing = Packing(make([2, 1, 3], 5))
        for told in strange_objects() + [-1, -2, -ROWS, ROWS + 1, ROWS + 2, 10 ** 60]:
            self.check_refused(packing.begun, told, InvalidNumber, "number")

    def test_what_is_no_heap_page(self):
        for lengths, size in [([2, 1, 3], 5), ([1], 64), ([1], 7), ([64] * 6, 64), ([63, 2], 64)]:
            packing = Packing(make(lengths, size))
            many = packing.page_of(ROWS - 1) + 1
            for told in strange_objects() + [-1, -2, -many, many, many + 1, ROWS, ROWS + 1, 10 ** 60]:
                self.check_refused(packing.first_row, told, InvalidPage, "page")
                self.check_refused(packing.rows_on, told, InvalidPage, "page")
                self.check_refused(packing.units_on, told, InvalidPage, "page")

    def test_the_first_heap_page_beyond_the_rows(self):
        for lengths, size in packings():
            packing = Packing(make(lengths, size))
            many = packing.page_of(ROWS - 1) + 1
            for call in [packing.first_row, packing.rows_on, packing.units_on]:
                self.check_refused(call, many, InvalidPage, "page")

    def test_the_last_ones_are_not_refused(self):
        for lengths, size in [([2, 1, 3], 5), ([1], 1), ([1], 64), ([1], 7), ([64] * 6, 64)]:
            packing = Packing(make(lengths, size))
            last = packing.page_of(ROWS - 1)
            self.assertGreaterEqual(packing.units_left(ROWS - 1), 0)
            self.assertEqual(packing.begun(ROWS), last + 1)
            self.assertLess(packing.first_row(last), ROWS)
            self.assertGreater(packing.rows_on(last), 0)
            self.assertGreater(packing.units_on(last), 0)

    def test_an_error_changes_nothing(self):
        packing = Packing(make([1, 1, 2], 3))
        before = [packing.page_of(row) for row in range(50)] + [packing.cycle()]
        for name in METHODS[:-1]:
            for told in [None, -1, True, [], 10 ** 60]:
                with self.assertRaises(StoreError):
                    getattr(packing, name)(told)
        self.assertEqual([packing.page_of(row) for row in range(50)] + [packing.cycle()], before)


class InterfaceTest(unittest.TestCase):

    def test_arguments_by_name(self):
        settings = make([5, 3, 2], 11)
        packing = Packing(settings=settings)
        self.assertEqual(packing.cycle(), Packing(settings).cycle())
        for told in [0, 1, 7, 10 ** 20]:
            self.assertEqual(packing.page_of(row=told), packing.page_of(told))
            self.assertEqual(packing.units_left(row=told), packing.units_left(told))
            self.assertEqual(packing.first_row(page=told), packing.first_row(told))
            self.assertEqual(packing.rows_on(page=told), packing.rows_on(told))
            self.assertEqual(packing.units_on(page=told), packing.units_on(told))
            self.assertEqual(packing.begun(moment=told), packing.begun(told))

    def test_methods_stand_in_the_class_itself(self):
        self.assertEqual(Packing.__module__, "keeprows.packing")
        for name in ["__init__"] + METHODS:
            self.assertIn(name, vars(Packing))

    def test_integers_are_returned(self):
        packing = Packing(make([5, 3, 2], 11))
        for name in METHODS[:-1]:
            for told in [0, 1, 10 ** 20]:
                self.assertIs(type(getattr(packing, name)(told)), int)
        self.assertEqual([type(number) for number in packing.cycle()], [int, int, int])


if __name__ == "__main__":
    unittest.main()
