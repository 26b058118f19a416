"""The log: [36] to [39], and what [2], [3] and [7] say of them."""

import time
import unittest
from random import Random

from keeprows import logs
from keeprows.errors import InvalidNumber, InvalidRow
from keeprows.far import Far
from keeprows.logs import (
    checkpoint_moment, checkpoints, log_entries, log_pages, log_takes, log_total, open_rows, record, record_page,
    record_place, take_row,
)
from keeprows.packing import Packing
from keeprows.stores import Store

from model import PlainStore, far_settings, plain_copy
from plain import ROWS, make
from refusals import WRONG_MOMENT, WRONG_ROW, WRONG_SETTINGS, check_refusals, numbers_but

EXAMPLE = make([1], 2, 2, 2, 5, 3)


def all_periods():
    return [make([1], 2, 2, records, every, 3) for records in range(1, 17) for every in range(1, 41)]


class CountTest(unittest.TestCase):

    def check_period(self, settings, moment, found):
        """Check what is told of a period that begins behind so many rows, row by row.

        found is how many checkpoints there were, and how many pages were taken.
        """
        marks, taken = found
        pages = []
        for row in range(moment, min(moment + settings.every, ROWS)):
            self.assertEqual(checkpoints(settings, row), marks)
            self.assertEqual(open_rows(settings, row), (moment, row))
            self.assertEqual([log_total(settings, row), log_takes(settings, row)], [len(pages), taken])
            if not pages or len(pages[-1]) == settings.records:
                pages.append([])
                self.assertEqual(take_row(settings, taken), row)
                taken += 1
            pages[-1].append(row)
            self.assertEqual(record_place(settings, row), (len(pages) - 1, len(pages[-1]) - 1))
        if moment + settings.every <= ROWS:
            self.assertEqual(checkpoint_moment(settings, marks), moment + settings.every)
        return marks + 1, taken

    def test_counted_row_by_row(self):
        for settings in all_periods():
            found = (0, 0)
            for moment in range(0, 200, settings.every):
                found = self.check_period(settings, moment, found)

    def test_far_away(self):
        chance = Random(201)
        for settings in all_periods():
            for exponent in [10, 20, 30]:
                mark = chance.randint(1, 10 ** exponent // settings.every - 1)
                taken = mark * -(-settings.every // settings.records)
                self.check_period(settings, mark * settings.every, (mark, taken))

    def test_the_last_checkpoint_and_the_last_taking(self):
        for settings in all_periods():
            mark, taken = checkpoints(settings, ROWS), log_takes(settings, ROWS)
            self.assertLessEqual(checkpoint_moment(settings, mark - 1), ROWS)
            self.assertEqual(checkpoint_moment(settings, mark - 1), mark * settings.every)
            self.assertLess(take_row(settings, taken - 1), ROWS)
            for more in [0, 1, 10 ** 30]:
                with self.assertRaises(InvalidNumber) as caught:
                    checkpoint_moment(settings, mark + more)
                self.assertEqual(caught.exception.number, mark + more)
                with self.assertRaises(InvalidNumber) as caught:
                    take_row(settings, taken + more)
                self.assertEqual(caught.exception.number, taken + more)

    def test_no_limit_of_phases(self):
        settings = make([1], 1, 8, 3, 17, 100)
        self.assertEqual([checkpoints(settings, 170), log_takes(settings, 18)], [10, 7])

    def test_the_ends(self):
        self.assertEqual(open_rows(EXAMPLE, 0), (0, 0))
        self.assertEqual([checkpoints(EXAMPLE, 0), log_total(EXAMPLE, 0), log_takes(EXAMPLE, 0)], [0, 0, 0])
        self.assertEqual(open_rows(EXAMPLE, ROWS), (ROWS, ROWS))
        self.assertEqual([checkpoints(EXAMPLE, ROWS), log_total(EXAMPLE, ROWS)], [ROWS // 5, 0])
        self.assertEqual(record_place(EXAMPLE, ROWS - 1), (2, 0))


class EntriesTest(unittest.TestCase):

    def check_moment(self, far, store, notes):
        """Check what is told of the log of a plain store; notes has (row, log page, heap page) of the open rows."""
        settings, moment = far.settings, store.done
        self.assertEqual(log_pages(far, moment), store.log)
        entries = {page: [] for page in store.log}
        for row, page, heap in notes:
            entries[page].append((row, settings.length_of(row), heap))
            self.assertEqual(record_page(far, moment, row), page)
        self.assertEqual(log_entries(far, moment), list(entries.items()), (vars(settings), moment))

    def run_plainly(self, far, store, many):
        notes = []
        self.check_moment(far, store, notes)
        while store.done < many:
            row = store.done
            for event in store.step():
                if event[0] == "record":
                    page = event[1]
                elif event[0] == "put":
                    notes.append((row, page, event[1]))
                    self.assertEqual(record(far, row), (row, far.settings.length_of(row), event[1]))
            if store.done % far.settings.every == 0:
                notes = []
            self.check_moment(far, store, notes)

    def test_the_first_rows(self):
        for settings in far_settings(202, 25):
            self.run_plainly(Far(settings), PlainStore(settings), 90)

    def test_far_rows(self):
        chance = Random(203)
        for settings in far_settings(204, 25):
            far = Far(settings)
            for moment in [chance.randint(0, ROWS - 100), 10 ** 20, ROWS - 60]:
                moment -= moment % settings.every
                self.run_plainly(far, plain_copy(settings, far.behind(moment)), min(ROWS, moment + 45))

    def test_pages_of_the_log_are_those_with_that_role(self):
        chance = Random(205)
        for settings in far_settings(206, 25):
            far = Far(settings)
            for moment in [chance.randint(0, ROWS) for _ in range(4)] + [ROWS, ROWS - 1]:
                book = far.behind(moment)
                found = log_pages(far, moment)
                self.assertEqual(len(found), log_total(settings, moment))
                for number, page in enumerate(found):
                    self.assertEqual(book.role(page), ("log", number))
                roles = [book.role(page)[0] for page in range(book.file_size())]
                self.assertEqual(roles.count("log"), len(found))
                rows = [told for _, records in log_entries(far, moment) for told in records]
                self.assertEqual([row for row, _, _ in rows], list(range(*open_rows(settings, moment))))
                if moment % settings.every == 0:
                    self.assertEqual(log_entries(far, moment), [])

    def test_the_newest_heap_page_has_the_row(self):
        chance = Random(207)
        for settings in far_settings(208, 20):
            far, packing = Far(settings), Packing(settings)
            for row in [0, ROWS - 1] + [chance.randint(0, ROWS - 1) for _ in range(5)]:
                number, page = far.behind(row + 1).heap_pages()[-1]
                self.assertEqual(record(far, row), (row, settings.length_of(row), page))
                self.assertEqual(number, packing.page_of(row))

    def test_pages_of_one_period_are_taken_again(self):
        # With few live rows and heap pages that last long, no other page is taken in between.
        settings = make([1], 64, 2, 2, 8, 1)
        store, before = Store(settings), None
        for _ in range(6):
            store.steps(7)
            if before is not None:
                self.assertEqual(store.log_pages(), before[::-1])
            before = store.log_pages()
            store.steps(1)
            self.assertEqual(store.log_pages(), [])

    def test_told_by_hand(self):
        far = Far(EXAMPLE)
        self.assertEqual(log_pages(far, 4), [0, 3])
        self.assertEqual(log_entries(far, 3), [(0, [(0, 1, 1), (1, 1, 1)]), (3, [(2, 1, 4)])])
        self.assertEqual([record_page(far, 3, row) for row in range(3)], [0, 0, 3])
        for moment, row in [(3, 3), (5, 4), (8, 4), (0, 0), (ROWS, ROWS - 1), (8, 8)]:
            with self.assertRaises(InvalidRow) as caught:
                record_page(far, moment, row)
            self.assertEqual(caught.exception.row, row)

    def test_what_is_returned_is_new(self):
        far = Far(EXAMPLE)
        for call in [lambda: log_entries(far, 8), lambda: log_pages(far, 8), lambda: log_entries(far, 8)[0][1]]:
            told = call()
            kept = list(told)
            told.clear()
            self.assertEqual(call(), kept)


class SpeedTest(unittest.TestCase):

    def test_some_hundred_far_questions(self):
        chance = Random(209)
        for settings in [make([1], 2, 2, 2, 4, 3), make([1], 64, 8, 16, 40, 100)]:
            far, before = Far(settings), time.process_time()
            for _ in range(150):
                row = ROWS - chance.randint(1, 10 ** 29)
                self.assertEqual(record(far, row)[0], row)
                self.assertEqual(len(log_entries(far, row)), log_total(settings, row))
            self.assertLess(time.process_time() - before, 30)


class WrongArgumentsTest(unittest.TestCase):

    def test_functions_of_moments(self):
        for call in [checkpoints, open_rows, log_total, log_takes]:
            check_refusals(self, call, {"settings": EXAMPLE, "moment": 8}, [WRONG_SETTINGS, WRONG_MOMENT])

    def test_functions_of_numbers(self):
        for call, after in [(checkpoint_moment, ROWS // 5), (take_row, ROWS // 5 * 3)]:
            wrong = ("k", numbers_but(0, after - 1), InvalidNumber, None)
            check_refusals(self, call, {"settings": EXAMPLE, "k": 3}, [WRONG_SETTINGS, wrong])

    def test_record_place(self):
        check_refusals(self, record_place, {"settings": EXAMPLE, "row": 8}, [WRONG_SETTINGS, WRONG_ROW])

    def test_functions_of_a_far(self):
        far = Far(EXAMPLE)
        for call in [log_pages, log_entries]:
            check_refusals(self, call, {"far": far, "moment": 8}, [WRONG_MOMENT])
        check_refusals(self, record, {"far": far, "row": 8}, [WRONG_ROW])
        for moment in [8, ROWS - 1]:
            first = moment - moment % 5
            wrong = ("row", numbers_but(first, moment - 1), InvalidRow, None)
            check_refusals(self, record_page, {"far": far, "moment": moment, "row": moment - 1}, [WRONG_MOMENT, wrong])


class InterfaceTest(unittest.TestCase):

    def test_each_function_stands_in_its_file(self):
        for call in [
            checkpoint_moment, checkpoints, log_entries, log_pages, log_takes, log_total, open_rows, record,
            record_page, record_place, take_row,
        ]:
            self.assertEqual(call.__module__, "keeprows.logs")
            self.assertIs(getattr(logs, call.__name__), call)

    def test_kinds_of_what_is_returned(self):
        far = Far(EXAMPLE)
        self.assertEqual([type(told) for told in (open_rows(EXAMPLE, 8), record_place(EXAMPLE, 8), record(far, 8))], [
            tuple, tuple, tuple,
        ])
        entries = log_entries(far, 8)
        told = [entries, entries[0], entries[0][1], entries[0][1][0], log_pages(far, 8), record_page(far, 8, 7)]
        self.assertEqual([type(one) for one in told], [list, tuple, list, tuple, list, int])


if __name__ == "__main__":
    unittest.main()
