"""Phases and blocks: [40], [41], [42], [44], and what [2], [3] and [7] say of them."""

import unittest

from keeprows import phases as module
from keeprows.blocks import uses
from keeprows.errors import LimitExceeded
from keeprows.far import Far
from keeprows.packing import Packing
from keeprows.phases import blocks, phases, window
from keeprows.stores import Store

from model import answers, far_settings, is_limited, many_settings, plain_phases, plain_width, plain_window
from plain import ROWS, count_rows, make
from refusals import WRONG_SETTINGS, check_refusals

FUNCTIONS = [phases, window, blocks]


def plain_begins(settings, many):
    """The first rows of the first heap pages, found one by one among so many rows."""
    begins = []
    for row, page, _ in count_rows(settings.lengths, settings.size, 0, 0, many):
        if page == len(begins):
            begins.append(row)
    return begins


class PlainTest(unittest.TestCase):

    def test_phases(self):
        for settings in far_settings(101, 60):
            many, rows = phases(settings)
            self.assertEqual((many, rows), plain_phases(settings))
            # Seen from checkpoint to checkpoint, the heap pages come again.
            first, begins = Packing(settings).cycle()[0], plain_begins(settings, 5000)
            self.assertEqual(rows % settings.every, 0)
            for page in range(first, len(begins) - many):
                self.assertEqual(begins[page + many] - begins[page], rows)

    def test_no_fewer_phases_will_do(self):
        for settings in far_settings(102, 40):
            first, pages, _ = Packing(settings).cycle()
            begins, many = plain_begins(settings, 5000), phases(settings)[0]
            for fewer in range(pages, many, pages):
                self.assertNotEqual((begins[first + fewer] - begins[first]) % settings.every, 0)

    def test_window(self):
        for settings in far_settings(103, 80):
            self.assertEqual(window(settings), plain_window(settings), vars(settings))

    def test_blocks(self):
        for settings in far_settings(104, 80):
            live, begun = plain_window(settings)
            width, first = blocks(settings)
            self.assertEqual(width, plain_width(settings))
            begins, least = plain_begins(settings, 20000), Packing(settings).cycle()[0] + live + begun + 1
            good = [
                number for number in range(1, 6) if number * width >= least
                and begins[number * width] >= settings.keep + settings.every
            ]
            self.assertEqual(first, good[0])

    def test_told_by_hand(self):
        settings = make([1], 2, 2, 2, 4, 3)
        self.assertEqual([phases(settings), window(settings), blocks(settings)], [(2, 4), (3, 2), (8, 1)])
        settings = make([1], 1, 3, 2, 1, 1)
        self.assertEqual([phases(settings), window(settings), blocks(settings)], [(1, 1), (2, 1), (9, 1)])
        settings = make([2, 1, 3], 5, 2, 3, 9, 9)
        self.assertEqual([phases(settings), window(settings), blocks(settings)], [(9, 18), (6, 5), (16, 1)])

    def test_the_part_that_comes_again_alone_counts(self):
        # Ahead of it, the heap pages of the first rows are less full.
        for settings in far_settings(105, 60):
            self.assertEqual(window(settings), plain_window(settings))
        settings = make([1, 2, 1], 2, 2, 3, 3, 1)
        self.assertEqual(Packing(settings).cycle(), (1, 2, 3))
        self.assertEqual([phases(settings), window(settings)], [(2, 3), (2, 2)])


class LimitTest(unittest.TestCase):

    def check_limit(self, settings):
        limit = None
        if plain_width(settings) > 128:
            limit = 128
        if plain_phases(settings)[0] > 16:
            limit = 16
        for call in FUNCTIONS + [Far]:
            if limit is None:
                call(settings)
            else:
                with self.assertRaises(LimitExceeded) as caught:
                    call(settings)
                self.assertEqual(caught.exception.limit, limit)
        return limit

    def test_just_where_they_are_too_great(self):
        limits = [self.check_limit(settings) for settings in many_settings(111, 400)]
        for limit in [None, 16, 128]:
            self.assertGreater(limits.count(limit), 15)

    def test_at_the_limits(self):
        for every in [15, 16, 17, 18]:
            self.assertEqual(self.check_limit(make([1], 1, 4, 3, every, 5)), 16 if every > 16 else None)
        for lengths, every, limit in [([1] * 4, 16, None), ([1] * 5, 16, 16), ([1] * 6, 18, 16), ([1] * 6, 12, None)]:
            self.assertEqual(self.check_limit(make(lengths, 1, 4, 3, every, 5)), limit)
        # One heap page for each row: keep + 1 live ones, 16 begin, and one more must go into a block.
        for fanout, keep in [(3, 63), (4, 46), (6, 18), (7, 31), (8, 46)]:
            self.assertIsNone(self.check_limit(make([1], 1, fanout, 3, 16, keep)))
            self.assertEqual(self.check_limit(make([1], 1, fanout, 3, 16, keep + 1)), 128)
        # A block of 125 or 128 heap pages is not too great.
        for fanout in [2, 5]:
            self.assertIsNone(self.check_limit(make([1], 1, fanout, 3, 16, 100)))

    def test_the_limit_of_phases_comes_first(self):
        self.assertEqual(self.check_limit(make([1], 1, 8, 3, 17, 100)), 16)

    def test_a_store_has_no_such_limit(self):
        limited = [settings for settings in many_settings(112, 60) if is_limited(settings)]
        self.assertGreater(len(limited), 10)
        for settings in limited:
            store = Store(settings)
            store.steps(500)
            self.assertEqual(store.moment(), 500)


def told_at(settings, book, page):
    """What is so at the beginning of a block, relative to its first heap page."""
    used = uses(book)
    node_pages = [(level, number - page // settings.fanout ** (level + 1)) for level, number, _ in book.node_pages()]
    return (
        [number - page for number, _ in book.heap_pages()], node_pages, len(book.log_pages()),
        len(book.waiting_pages()), [used.index(changed) for changed in book.changed_pages() if changed in used],
    )


class FactTest(unittest.TestCase):

    def test_beginnings_of_blocks_with_one_phase(self):
        for settings in far_settings(121, 25):
            width, first = blocks(settings)
            many, packing, far = phases(settings)[0], Packing(settings), Far(settings)
            last, found = packing.page_of(ROWS - 1) // width, {}
            places = list(range(first, first + 20)) + [10 ** 12, 10 ** 20, last - 1] + [
                settings.fanout ** zeros * times for zeros in (3, 5, 9) for times in (1, 2, 3, 5)
            ]
            for block in [place for place in places if first <= place <= last]:
                book = far.behind(packing.first_row(block * width))
                told = told_at(settings, book, block * width)
                changed = sorted(told[-1])
                self.assertEqual(found.setdefault(block * width % many, told[:-1] + (changed,)), told[:-1] + (changed,))
                self.assertEqual(len(told[-1]), len(book.changed_pages()))
                for level, _, _ in book.node_pages():
                    self.assertLess(settings.fanout ** level, width)

    def test_one_border_only_while_a_block_is_done(self):
        for settings in far_settings(122, 12, 20, 12):
            width, first = blocks(settings)
            packing, store = Packing(settings), Store(settings)
            for block in range(first, first + 4):
                begin, end = packing.first_row(block * width), packing.first_row((block + 1) * width)
                store.steps(begin - store.moment())
                settled = 0
                while store.moment() < end:
                    store.step()
                    great = [told for told in store.node_pages() if settings.fanout ** told[0] >= width]
                    pages = [number for number, _ in store.heap_pages()]
                    if great:
                        self.assertIn(block * width, pages[1:])
                    elif block * width not in pages[1:] and store.moment() % settings.every == 0:
                        settled += 1
                self.assertGreater(settled, 0)

    def test_a_store_row_by_row_is_so_too(self):
        for settings in far_settings(123, 10, 30):
            width, first = blocks(settings)
            packing, far, store = Packing(settings), Far(settings), Store(settings)
            for block in range(first, first + 6):
                store.steps(packing.first_row(block * width) - store.moment())
                self.assertEqual(answers(far.behind(store.moment())), answers(store))


class WrongArgumentsTest(unittest.TestCase):

    def test_what_is_no_settings(self):
        for call in FUNCTIONS:
            check_refusals(self, call, {"settings": make([1], 2, 2, 2, 4, 3)}, [WRONG_SETTINGS])


class InterfaceTest(unittest.TestCase):

    def test_each_function_stands_in_its_file(self):
        for call in FUNCTIONS:
            self.assertEqual(call.__module__, "keeprows.phases")
            self.assertIs(getattr(module, call.__name__), call)

    def test_tuples_of_integers_are_returned(self):
        for call in FUNCTIONS:
            told = call(make([1, 2, 1], 2, 2, 3, 3, 1))
            self.assertEqual([type(told)] + [type(number) for number in told], [tuple, int, int])


if __name__ == "__main__":
    unittest.main()
