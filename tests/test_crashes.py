"""Crashes and recovery: [61] to [66], and [34], [35], [43] of the books that recovered returns."""

import time
import unittest
from random import Random

from keeprows import crashes
from keeprows.blocks import uses
from keeprows.crashes import Disk, cut_off, disk, is_whole, needed_until, overwritten, recovered, redone
from keeprows.errors import InvalidArgument, InvalidNumber, InvalidPage, InvalidRow, InvalidSettings, StoreError
from keeprows.far import Far
from keeprows.stores import Book

from model import PlainStore, answers, far_settings, many_settings, newest_rows, plain_copy, row_answers
from plain import ROWS, make, strange_objects
from refusals import WRONG_MOMENT, WRONG_SETTINGS, check_refusals, numbers_but

EXAMPLE = make([1], 2, 2, 2, 4, 3)


def picture_of(store):
    """The picture of a plain store behind a checkpoint."""
    return (store.done, store.heap_pages(), store.node_pages(), list(store.free), store.size)


def parts_of(given):
    return given.settings, given.picture, given.records


def records_of(settings, first, after):
    return [(row, settings.lengths[row % len(settings.lengths)]) for row in range(first, after)]


def far_moments(chance, many):
    return [chance.randint(0, 10 ** chance.randint(3, 30)) for _ in range(many)] + [ROWS, ROWS - 1]


class Strange(str):
    """A string of another class."""


class DiskTest(unittest.TestCase):

    def test_behind_the_first_rows(self):
        for settings in far_settings(301, 25):
            far, store = Far(settings), PlainStore(settings)
            picture = picture_of(store)
            for moment in range(220):
                given = disk(far, moment)
                self.assertEqual(given.picture, picture, (vars(settings), moment))
                self.assertEqual(given.records, records_of(settings, picture[0], moment))
                self.assertTrue(given.settings == settings)
                store.step()
                if store.done % settings.every == 0:
                    picture = picture_of(store)

    def test_far_away(self):
        chance = Random(302)
        for settings in far_settings(303, 25):
            far = Far(settings)
            for moment in far_moments(chance, 4):
                first = moment - moment % settings.every
                given = disk(far, moment)
                self.assertEqual(given.picture, picture_of(plain_copy(settings, far.behind(first))))
                self.assertEqual(given.records, records_of(settings, first, moment))

    def test_made_of_parts(self):
        far = Far(EXAMPLE)
        for moment in [0, 3, 6, 8, 11, ROWS, ROWS - 1]:
            given = disk(far, moment)
            self.assertTrue(Disk(*parts_of(given)) == given)
            self.assertTrue(Disk(settings=given.settings, picture=given.picture, records=given.records) == given)
            self.assertFalse(given != Disk(*parts_of(given)))
            for other in [disk(far, abs(moment - 4)), disk(far, abs(moment - 1)), None, 5, given.picture, far]:
                self.assertFalse(given == other)
                self.assertTrue(given != other)

    def test_unlike_in_one_part(self):
        settings, picture, records = parts_of(disk(Far(EXAMPLE), 6))
        given = Disk(settings, picture, records)
        moment, heap, nodes, free, size = picture
        unlike = [
            Disk(make([1], 2, 2, 3, 4, 3), picture, records), Disk(settings, picture, records[:1]),
            Disk(settings, picture, [(4, 1), (5, 2)]), Disk(settings, (8, heap, nodes, free, size), []),
            Disk(settings, (moment, heap[:1], nodes, free, size), records),
            Disk(settings, (moment, heap[::-1], nodes, free, size), records),
            Disk(settings, (moment, heap, [], free, size), records),
            Disk(settings, (moment, heap, nodes, free[::-1], size), records),
            Disk(settings, (moment, heap, nodes, free, 6), records),
        ]
        for other in unlike:
            self.assertFalse(given == other)
        self.assertTrue(given == Disk(make([1], 2, 2, 2, 4, 3), picture, records))

    def test_lists_that_are_changed_afterwards(self):
        settings, picture, records = parts_of(disk(Far(EXAMPLE), 6))
        heap, nodes, free = [list(part) for part in picture[1:4]]
        kept = list(records)
        given = Disk(settings, (4, heap, nodes, free, 5), kept)
        for told in [heap, nodes, free, kept]:
            told.append(told[0])
        self.assertEqual([given.picture, given.records], [picture, records])
        events, told = redone(given), recovered(given).heap_pages()
        events.clear()
        told.clear()
        self.assertEqual([len(redone(given)), len(recovered(given).heap_pages())], [7, 2])

    def wrong_pictures(self, settings, picture):
        moment, heap, nodes, free, size = picture
        wrong = strange_objects() + [list(picture), picture[:4], picture + (0,), picture[::-1], 5]
        for told in numbers_but(0, ROWS) + [1, 2, 3, 5, ROWS - 1]:
            wrong.append((told, heap, nodes, free, size))
        for told in numbers_but(0, None):
            wrong += [
                (moment, heap, nodes, free, told), (moment, heap, nodes, free + [told], size),
                (moment, [(0, told)], nodes, free, size), (moment, heap + [(told, 1)], nodes, free, size),
                (moment, heap, [(0, 0, told)], free, size), (moment, heap, nodes + [(0, told, 1)], free, size),
                (moment, heap, [(told, 0, 1)], free, size),
            ]
        for told in [value for value in strange_objects() if not isinstance(value, list)] + [()]:
            wrong += [(moment, told, nodes, free, size), (moment, heap, told, free, size), (moment, heap, nodes, told, size)]
        for told in [value for value in strange_objects() if not isinstance(value, tuple)] + [(1,), (1, 2, 3, 4), [1, 2]]:
            wrong += [(moment, heap + [told], nodes, free, size), (moment, heap, [told], free, size)]
        return wrong + [(moment, nodes, nodes, free, size), (moment, heap, heap, free, size)]

    def wrong_records(self, records):
        wrong = [told for told in strange_objects() if told != []] + [tuple(records), 5]
        for told in numbers_but(0, None):
            wrong += [[(4, told)], [(4, 1), (5, told)]]
        for told in strange_objects() + [3, 5, 6, 0, -4]:
            wrong.append([(told, 1)])
        for told in strange_objects() + [(4,), (4, 1, 1), [4, 1]]:
            wrong += [[told], [(4, 1), told]]
        wrong += [[(5, 1)], [(4, 1), (6, 1)], [(5, 1), (4, 1)], [(4, 1), (4, 1)], [(row, 1) for row in range(4, 8)]]
        return wrong + [[(row, 1) for row in range(4, 12)], [(3, 1), (4, 1)]]

    def test_what_is_no_picture_and_what_are_no_records(self):
        settings, picture, records = parts_of(disk(Far(EXAMPLE), 6))
        good = {"settings": settings, "picture": picture, "records": records}
        check_refusals(self, Disk, good, [
            WRONG_SETTINGS, ("picture", self.wrong_pictures(settings, picture), InvalidArgument, "picture"),
            ("records", self.wrong_records(records), InvalidArgument, "records"),
        ])

    def test_records_up_to_the_last_row(self):
        settings = make([1], 2, 2, 2, 7, 3)
        first = ROWS - ROWS % 7
        picture = (first, [], [], [], 0)
        rows = [(row, 1) for row in range(first, ROWS)]
        self.assertEqual(Disk(settings, picture, rows).records, rows)
        self.assertLess(len(rows), 6)
        with self.assertRaises(InvalidArgument):
            Disk(settings, picture, rows + [(ROWS, 1)])

    def test_parts_that_no_store_has(self):
        given = Disk(EXAMPLE, (8, [(5, 5), (5, 5)], [(200, 7, 1)], [9, 9, 10 ** 40], 10 ** 50), [(8, 0), (9, 77)])
        self.assertEqual(given.picture[4], 10 ** 50)
        self.assertFalse(is_whole(given))


class WholeTest(unittest.TestCase):

    def check_broken(self, given):
        self.assertIs(is_whole(given), False)
        for call in [recovered, redone]:
            with self.assertRaises(InvalidArgument) as caught:
                call(given)
            self.assertEqual(caught.exception.part, "disk")

    def unlike_in_the_picture(self, picture):
        """Pictures of which one part is otherwise."""
        moment, heap, nodes, free, size = picture
        for at, (number, page) in enumerate(heap):
            for told in [(number + 1, page), (number, page + 1), (number, size), (number, heap[at - 1][1] + size)]:
                yield moment, heap[:at] + [told] + heap[at + 1:], nodes, free, size
            yield moment, heap[:at] + heap[at + 1:], nodes, free, size
            yield moment, heap[:at] + heap[at + 1:], nodes, free + [page], size
        for at, (level, number, page) in enumerate(nodes):
            for told in [(level + 1, number, page), (level, number + 1, page), (level, number, page + 1)]:
                yield moment, heap, nodes[:at] + [told] + nodes[at + 1:], free, size
            yield moment, heap, nodes[:at] + nodes[at + 1:], free, size
            yield moment, heap, nodes[:at] + nodes[at + 1:], free + [page], size
        yield moment, heap, nodes, free[1:] if free else [0], size
        yield moment, heap, nodes, free + [0], size
        yield moment, heap, nodes, free, size + 1
        yield moment, heap, nodes, free, max(0, size - 1) if size else 1
        yield moment, heap, nodes, free + [size], size
        yield moment, heap, nodes, free + [size + 1], size + 1
        yield moment, heap, nodes, free, 10 ** 40
        if len(heap) > 1:
            yield moment, heap[::-1], nodes, free, size
        if len(nodes) > 1:
            yield moment, heap, nodes[::-1], free, size

    def test_one_thing_otherwise(self):
        for settings in far_settings(311, 12, 30):
            far = Far(settings)
            for moment in [0, 1, settings.every, 60, 10 ** 20 + 7]:
                given = disk(far, moment)
                self.assertIs(is_whole(given), True)
                for picture in self.unlike_in_the_picture(given.picture):
                    self.check_broken(Disk(settings, picture, given.records))
                for at, (row, length) in enumerate(given.records):
                    for told in [length + 1, length - 1, 0]:
                        records = given.records[:at] + [(row, told)] + given.records[at + 1:]
                        if told != length:
                            self.check_broken(Disk(settings, given.picture, records))

    def test_another_moment(self):
        far = Far(EXAMPLE)
        _, heap, nodes, free, size = disk(far, 40).picture
        self.check_broken(Disk(EXAMPLE, (44, heap, nodes, free, size), []))
        self.check_broken(Disk(EXAMPLE, (0, heap, nodes, free, size), []))
        self.check_broken(Disk(EXAMPLE, (40, [], [], [], 0), []))

    def test_what_is_no_disk(self):
        for told in [one for one in strange_objects() if not isinstance(one, Disk)]:
            for call in [recovered, redone]:
                with self.assertRaises(InvalidArgument) as caught:
                    call(told)
                self.assertEqual(caught.exception.part, "disk")

    def check_recovered(self, far, given, moment):
        book, other = recovered(given), far.behind(moment)
        self.assertIs(type(book), Book)
        self.assertEqual(answers(book), answers(other), (vars(far.settings), moment))
        self.assertEqual(book.free_pages(1000), other.free_pages(1000))
        rows = newest_rows(far.settings, moment)
        self.assertEqual(row_answers(book, rows), row_answers(other, rows))
        self.assertEqual(uses(book), uses(other))

    def test_recovered_as_the_store(self):
        chance = Random(312)
        for settings in far_settings(313, 20):
            far = Far(settings)
            for moment in list(range(0, 90, 7)) + far_moments(chance, 4):
                given = disk(far, moment)
                self.assertIs(is_whole(given), True)
                self.check_recovered(far, given, moment)
                self.assertIs(is_whole(given), True)

    def test_the_errors_of_a_recovered_book(self):
        far = Far(EXAMPLE)
        book = recovered(disk(far, 10))
        for page in [-1, book.file_size(), None, True, "0", (0,), []]:
            with self.assertRaises(InvalidPage):
                book.role(page)
        for row in [6, 10, -1, None, True, [7]]:
            for call in [book.page_of, book.path]:
                with self.assertRaises(InvalidRow):
                    call(row)
        with self.assertRaises(InvalidNumber):
            book.free_pages(1001)

    def exchanged(self, given, pages, more):
        """The same disk with other pages, and some more of the list; pages is the list of the new ones by the old."""
        moment, heap, nodes, free, size = given.picture
        return Disk(given.settings, (
            moment, [(number, pages[page]) for number, page in heap],
            [(level, number, pages[page]) for level, number, page in nodes],
            [pages[page] for page in free] + pages[size:], size + more,
        ), given.records)

    def test_other_pages_and_a_longer_list(self):
        chance = Random(314)
        for settings in far_settings(315, 20, 40):
            far = Far(settings)
            for moment in [chance.randint(0, 300), chance.randint(0, ROWS), settings.every - 1]:
                given, more = disk(far, moment), chance.choice([0, 0, 3, 60])
                pages = list(range(given.picture[4] + more))
                chance.shuffle(pages)
                other = self.exchanged(given, pages, more)
                self.assertIs(is_whole(other), True)
                store = self.go_on_plainly(far, other)
                book = recovered(other)
                self.assertEqual(answers(book), answers(store))
                self.assertEqual(row_answers(book, newest_rows(settings, moment))[1], store.roles())

    def go_on_plainly(self, far, given):
        """A plain store with the picture's pages, behind the rows of the records; redone is checked on the way."""
        moment, heap, nodes, free, size = given.picture
        store = plain_copy(given.settings, far.behind(moment))
        store.page_for = {("heap", number): page for number, page in heap}
        store.page_for.update({("node", level, number): page for level, number, page in nodes})
        store.free, store.size = list(free), size
        events = []
        for _ in given.records:
            events += store.step()
        self.assertEqual(redone(given), [event for event in events if event[0] != "record"])
        return store

    def test_redone(self):
        chance = Random(316)
        for settings in far_settings(317, 25):
            far = Far(settings)
            for moment in list(range(0, 60, 5)) + far_moments(chance, 3):
                self.go_on_plainly(far, disk(far, moment))
        self.assertEqual(redone(disk(Far(EXAMPLE), 8)), [])

    def test_settings_for_which_there_is_no_far(self):
        for settings in many_settings(318, 30):
            store = PlainStore(settings)
            for _ in range(3 * settings.every):
                store.step()
            picture = picture_of(store)
            for _ in range(settings.every - 1):
                store.step()
            given = Disk(settings, picture, records_of(settings, picture[0], store.done))
            self.assertIs(is_whole(given), True)
            self.assertEqual(answers(recovered(given)), answers(store))


class CutTest(unittest.TestCase):

    def test_cut_off(self):
        chance = Random(321)
        for settings in far_settings(322, 15):
            far = Far(settings)
            for moment in list(range(0, 50, 9)) + far_moments(chance, 2):
                given = disk(far, moment)
                many = moment % settings.every
                for count in sorted({0, min(1, many), many // 2, many}):
                    self.assertTrue(cut_off(given, count) == disk(far, moment - count))
                self.assertEqual(len(given.records), many)

    def test_disks_that_are_not_whole(self):
        given = Disk(EXAMPLE, (4, [], [(7, 7, 7)], [3, 3], 9), [(4, 0), (5, 9), (6, 1)])
        for count in range(4):
            other = cut_off(given, count)
            self.assertEqual(other.records, given.records[:3 - count])
            self.assertEqual(other.picture, given.picture)

    def test_any_other_number(self):
        far = Far(EXAMPLE)
        for moment in [4, 5, 7]:
            wrong = ("count", numbers_but(0, moment - 4), InvalidNumber, None)
            check_refusals(self, cut_off, {"given": disk(far, moment), "count": 0}, [wrong])


class NeededTest(unittest.TestCase):

    def plain_until(self, store, page):
        """Behind how many rows a plain store writes a page of its tree, or gives it back, at a checkpoint."""
        while store.done + store.settings.every <= ROWS:
            events = []
            for _ in range(store.settings.every):
                events = store.step()
            tree = [told[-1] for told in store.heap_pages() + store.node_pages()]
            if ("write", page) in events or page not in tree:
                return store.done
        return None

    def check_needed(self, far, moment):
        first = moment - moment % far.settings.every
        book = far.behind(first)
        tree = [told[-1] for told in book.heap_pages() + book.node_pages()]
        for page in tree:
            told = self.plain_until(plain_copy(far.settings, book), page)
            self.assertEqual(needed_until(far, moment, page), told, (vars(far.settings), moment, page))
        for page in range(book.file_size() + 2):
            if page not in tree:
                with self.assertRaises(InvalidPage) as caught:
                    needed_until(far, moment, page)
                self.assertEqual(caught.exception.page, page)
        return tree

    def test_near_and_far(self):
        chance = Random(331)
        for settings in far_settings(332, 14, 25, 20):
            far = Far(settings)
            for moment in [0, 1, 5, 37, 100, chance.randint(0, 10 ** 6), chance.randint(0, ROWS - 1000)]:
                self.check_needed(far, moment)

    def test_near_the_last_moment(self):
        nones = 0
        for settings in far_settings(333, 10, 25, 20):
            far = Far(settings)
            for moment in [ROWS, ROWS - 1, ROWS - 30]:
                for page in self.check_needed(far, moment):
                    nones += needed_until(far, moment, page) is None
        self.assertGreater(nones, 20)

    def test_overwritten(self):
        chance = Random(334)
        for settings in far_settings(335, 20):
            far, store, written = Far(settings), PlainStore(settings), set()
            for moment in range(120):
                self.assertEqual(overwritten(far, moment), sorted(written))
                written |= {event[1] for event in store.step() if event[0] in ("record", "write")}
                if store.done % settings.every == 0:
                    written = set()
            for moment in far_moments(chance, 4):
                told = overwritten(far, moment)
                self.assertEqual(told, sorted(far.behind(moment).log_pages()))
                _, heap, nodes, _, _ = disk(far, moment).picture
                self.assertFalse(set(told) & {part[-1] for part in heap + nodes})

    def test_some_hundred_far_questions(self):
        chance = Random(336)
        for settings in [EXAMPLE, make([1], 64, 8, 16, 40, 100)]:
            far, before = Far(settings), time.process_time()
            for _ in range(100):
                moment = ROWS - chance.randint(1, 10 ** 29)
                given = disk(far, moment)
                self.assertEqual(recovered(given).moment(), moment)
                self.assertGreater(needed_until(far, moment, given.picture[1][-1][1]), moment)
            self.assertLess(time.process_time() - before, 30)


class WrongArgumentsTest(unittest.TestCase):

    def test_disk_and_overwritten(self):
        for call in [disk, overwritten]:
            check_refusals(self, call, {"far": Far(EXAMPLE), "moment": 6}, [WRONG_MOMENT])

    def test_needed_until(self):
        far = Far(EXAMPLE)
        wrong = ("page", strange_objects() + [-1, 0, 3, 5, 6, 10 ** 40, 1.0, "1"], InvalidPage, None)
        check_refusals(self, needed_until, {"far": far, "moment": 6, "page": 4}, [WRONG_MOMENT, wrong])

    def test_settings_ahead_of_all(self):
        for told in [None, 5, "settings"]:
            with self.assertRaises(InvalidSettings):
                Disk(told, None, None)


class InterfaceTest(unittest.TestCase):

    def test_each_function_stands_in_its_file(self):
        for call in [Disk, cut_off, disk, is_whole, needed_until, overwritten, recovered, redone]:
            self.assertEqual(call.__module__, "keeprows.crashes")
            self.assertIs(getattr(crashes, call.__name__), call)
        self.assertIn("__eq__", vars(Disk))
        self.assertTrue(issubclass(InvalidArgument, StoreError))

    def test_kinds_of_what_is_returned(self):
        far = Far(EXAMPLE)
        given = disk(far, 6)
        self.assertIs(type(given), Disk)
        self.assertEqual([type(part) for part in given.picture], [int, list, list, list, int])
        self.assertEqual([type(given.picture), type(given.records), type(given.records[0])], [tuple, list, tuple])
        self.assertEqual([type(redone(given)), type(redone(given)[0]), type(overwritten(far, 6))], [list, tuple, list])
        self.assertEqual(list(vars(given)), ["settings", "picture", "records"])

    def test_a_string_of_another_class_is_no_picture(self):
        with self.assertRaises(InvalidArgument):
            Disk(EXAMPLE, Strange("picture"), [])


if __name__ == "__main__":
    unittest.main()
