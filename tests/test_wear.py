"""Wear: [56] to [60]."""

import time
import unittest
from random import Random

from keeprows import wear
from keeprows.errors import InvalidArgument, InvalidNumber, InvalidPage
from keeprows.far import Far
from keeprows.packing import Packing
from keeprows.stores import Store
from keeprows.wear import (
    last_writing, most_worn, next_writing, spent, wear_of, wear_row, worn_out, writing,
)

from model import PlainStore, far_settings, plain_copy
from plain import ROWS, make, strange_objects
from refusals import WRONG_FAR, WRONG_MOMENT, check_refusals, numbers_but

EXAMPLE = make([1], 2, 2, 2, 4, 3)
KINDS = ["record", "write"]
WRONG_PAGE = ("page", numbers_but(0, None), InvalidPage, None)
WRONG_KIND = ("kind", [told for told in strange_objects() if told is not None] + [
    5, "", "Write", "writes", "heap", "log", ("write",), b"write",
], InvalidArgument, "kind")


def writings_of(store, many):
    """The writings of each page in the next rows: a dict to lists of (row, kind)."""
    found = {}
    for _ in range(many):
        row = store.done
        for event in store.step():
            if event[0] in KINDS:
                found.setdefault(event[1], []).append((row, event[0]))
    return found


def far_moments(settings, chance, many):
    """Moments far away, near borders of great levels, and the last ones."""
    packing = Packing(settings)
    last, found = packing.page_of(ROWS - 1), [ROWS - 60, chance.randint(0, ROWS - 60)]
    while len(found) < many:
        step = settings.fanout ** chance.randint(3, 99)
        if step <= last:
            found.append(packing.first_row(chance.randint(1, last // step) * step) - chance.randint(0, 40))
    return [max(0, min(moment, ROWS - 60)) for moment in found]


class WearTest(unittest.TestCase):

    def test_the_first_rows(self):
        for settings in far_settings(701, 20):
            far, store, counts, put = Far(settings), Store(settings), {}, 0
            for moment in range(300):
                if moment % 12 == 0:
                    self.check_wear(far, moment, store.file_size(), counts, put)
                for event in store.step():
                    if event[0] in KINDS:
                        kinds = counts.setdefault(event[1], {"record": 0, "write": 0})
                        kinds[event[0]] += 1
                put += settings.length_of(moment)

    def check_wear(self, far, moment, size, counts, put):
        row = [sum(counts.get(page, {}).values()) for page in range(size)]
        self.assertEqual(wear_row(far, moment), row)
        self.assertEqual(most_worn(far, moment), (row.index(max(row)), max(row)) if row else None)
        self.assertEqual(spent(far, moment), (far.settings.size * sum(row), put))
        for page in range(size + 1):
            self.assertEqual(wear_of(far, page, moment), (row + [0])[page])
            for kind in KINDS:
                self.assertEqual(wear_of(far, page, moment, kind=kind), counts.get(page, {}).get(kind, 0))

    def test_plain_rows_far_away(self):
        chance = Random(702)
        for settings in far_settings(703, 20, 60):
            far = Far(settings)
            for moment in far_moments(settings, chance, 5):
                before, store = wear_row(far, moment), plain_copy(settings, far.behind(moment))
                found = writings_of(store, 50)
                behind = wear_row(far, moment + 50)
                self.assertEqual(len(behind), store.size)
                for page, number in enumerate(behind):
                    more = found.get(page, [])
                    self.assertEqual(number, (before + [0] * store.size)[page] + len(more))
                    if page % 5 == 0:
                        for kind in KINDS:
                            added = wear_of(far, page, moment + 50, kind=kind) - wear_of(far, page, moment, kind=kind)
                            self.assertEqual(added, len([one for one in more if one[1] == kind]))

    def test_sums_far_away(self):
        chance = Random(704)
        for settings in far_settings(705, 15):
            far = Far(settings)
            lengths = sum(settings.lengths)
            for moment in [chance.randint(0, ROWS) for _ in range(3)] + [ROWS, 0]:
                row = wear_row(far, moment)
                self.assertEqual(len(row), far.behind(moment).file_size())
                found = [wear_of(far, page, moment, kind="record") for page in range(len(row))]
                self.assertEqual(sum(found), moment)
                for page in chance.sample(range(len(row)), min(5, len(row))):
                    self.assertEqual(wear_of(far, page, moment), row[page])
                    self.assertEqual(wear_of(far, page, moment, kind="write"), row[page] - found[page])
                written, put = spent(far, moment)
                self.assertEqual(written, settings.size * sum(row))
                self.assertLess(abs(put * len(settings.lengths) - moment * lengths), 64 * 36)
                if moment:
                    self.assertEqual(most_worn(far, moment), (row.index(max(row)), max(row)))
            self.assertIsNone(most_worn(far, 0))

    def test_units_of_the_rows(self):
        settings = make([2, 1, 3], 5, 2, 3, 4, 9)
        far = Far(settings)
        for moment in range(8):
            self.assertEqual(spent(far, moment)[1], sum([2, 1, 3, 2, 1, 3, 2][:moment]))
        self.assertEqual(spent(far, 3 * 10 ** 29)[1], 6 * 10 ** 29)
        self.assertEqual(spent(far, 3 * 10 ** 29 + 2)[1], 6 * 10 ** 29 + 3)


class WritingTest(unittest.TestCase):

    def test_the_first_rows(self):
        for settings in far_settings(711, 12, 40, 20):
            far, store = Far(settings), PlainStore(settings)
            found = writings_of(store, 100)
            for page in range(0, store.size + 1, 2):
                self.check_page(far, page, found.get(page, []), 100)

    def check_page(self, far, page, told, many):
        for number, one in enumerate(told):
            self.assertEqual(writing(far, page, number), one)
        later = writing(far, page, len(told))
        self.assertTrue(later is None or later[0] >= many)
        for moment in range(0, many + 1, 9):
            ahead = [one for one in told if one[0] < moment]
            behind = [one for one in told if one[0] >= moment]
            self.assertEqual(last_writing(far, page, moment), ahead[-1] if ahead else None)
            found = next_writing(far, page, moment)
            self.assertTrue(found == behind[0] if behind else found is None or found[0] >= many)

    def test_plain_rows_far_away(self):
        chance = Random(712)
        for settings in far_settings(713, 14, 60):
            far = Far(settings)
            for moment in far_moments(settings, chance, 4):
                found = writings_of(plain_copy(settings, far.behind(moment)), 40)
                for page in chance.sample(range(far.behind(moment).file_size() + 1), 6):
                    told, before = found.get(page, []), wear_of(far, page, moment)
                    for number, one in enumerate(told):
                        self.assertEqual(writing(far, page, before + number), one)
                    later = writing(far, page, before + len(told))
                    self.assertTrue(later is None or later[0] >= moment + 40)
                    self.assertEqual(next_writing(far, page, moment), told[0] if told else later)
                    if told:
                        self.assertEqual(last_writing(far, page, moment + 40), told[-1])

    def test_just_when_it_has_been_written_so_often(self):
        chance = Random(714)
        for settings in far_settings(715, 15):
            far = Far(settings)
            for _ in range(8):
                moment = chance.randint(1, ROWS)
                page = chance.randrange(far.behind(moment).file_size())
                many = wear_of(far, page, moment)
                if many:
                    number = chance.randrange(many)
                    row, kind = writing(far, page, number)
                    self.assertEqual([wear_of(far, page, row), wear_of(far, page, row + 1)], [number, number + 1])
                    self.assertEqual(wear_of(far, page, row + 1, kind=kind), wear_of(far, page, row, kind=kind) + 1)
                    self.assertEqual([next_writing(far, page, row), last_writing(far, page, row + 1)], [(row, kind)] * 2)

    def test_not_so_many_times(self):
        for settings in far_settings(716, 8):
            far = Far(settings)
            size = far.behind(ROWS).file_size()
            for page in [0, 1, size - 1]:
                many = wear_of(far, page, ROWS)
                for number in [many, many + 1, 10 ** 40]:
                    self.assertIsNone(writing(far, page, number))
                self.assertIsNone(next_writing(far, page, ROWS))
                self.assertIsNone(last_writing(far, page, 0))
            for page in [size, 10 ** 40]:
                self.assertEqual([writing(far, page, 0), next_writing(far, page, 0), wear_of(far, page, ROWS)], [None, None, 0])
                self.assertIsNone(last_writing(far, page, ROWS))


class WornOutTest(unittest.TestCase):

    def test_small_lives(self):
        for settings in far_settings(721, 25):
            far, store, wear, found = Far(settings), Store(settings), {}, {}
            for row in range(700):
                for event in store.step():
                    if event[0] in KINDS:
                        wear[event[1]] = wear.get(event[1], 0) + 1
                        told = found.setdefault(wear[event[1]], (row, event[1]))
                        if told[0] == row and event[1] < told[1]:
                            found[wear[event[1]]] = (row, event[1])
            for life, told in found.items():
                self.assertEqual(worn_out(far, life), told, (vars(settings), life))
            later = worn_out(far, max(found) + 1)
            self.assertTrue(later is None or later[0] >= 700)

    def test_great_lives(self):
        chance = Random(722)
        for settings in far_settings(723, 15):
            far = Far(settings)
            most = most_worn(far, ROWS)[1]
            for life in [most, most - 1, chance.randint(1, most), chance.randint(1, 10 ** 15), most // 2 + 1]:
                row, page = worn_out(far, life)
                self.assertEqual(writing(far, page, life - 1)[0], row)
                self.assertLess(max(wear_row(far, row)), life)
                behind = wear_row(far, row + 1)
                self.assertEqual(behind[page], life)
                self.assertEqual(min(other for other in range(len(behind)) if behind[other] == life), page)
            for life in [most + 1, most + 2, 10 ** 40]:
                self.assertIsNone(worn_out(far, life))

    def test_several_pages_with_one_row(self):
        # The checkpoint behind four rows writes three pages for the first time.
        far = Far(make([1], 1, 2, 4, 4, 9))
        self.assertEqual(worn_out(far, 1), (0, 0))
        found = [writing(far, page, 0) for page in range(1, 5)]
        self.assertEqual(found.count((3, "write")), 4)


class SpeedTest(unittest.TestCase):

    def test_some_hundred_far_questions(self):
        chance = Random(731)
        for settings in [EXAMPLE, make([1], 64, 8, 16, 40, 100), make([1], 1, 2, 3, 10, 60)]:
            far, before = Far(settings), time.process_time()
            for _ in range(60):
                moment = chance.randint(10 ** 29, ROWS)
                page = chance.randrange(60)
                self.assertGreater(sum(wear_row(far, moment)), moment)
                self.assertIsNotNone(worn_out(far, chance.randint(1, 10 ** 27)))
                self.assertEqual(writing(far, page, wear_of(far, page, moment)), next_writing(far, page, moment))
            self.assertLess(time.process_time() - before, 30)


class WrongArgumentsTest(unittest.TestCase):

    def test_functions_of_moments(self):
        for call in [wear_row, most_worn, spent]:
            check_refusals(self, call, {"far": Far(EXAMPLE), "moment": 8}, [WRONG_FAR, WRONG_MOMENT])

    def test_functions_of_pages(self):
        for call in [last_writing, next_writing]:
            good = {"far": Far(EXAMPLE), "page": 4, "moment": 8}
            check_refusals(self, call, good, [WRONG_FAR, WRONG_PAGE, WRONG_MOMENT])
        good = {"far": Far(EXAMPLE), "page": 4, "number": 1}
        wrong = ("number", numbers_but(0, None), InvalidNumber, None)
        check_refusals(self, writing, good, [WRONG_FAR, WRONG_PAGE, wrong])

    def test_wear_of(self):
        for kind in KINDS:
            good = {"far": Far(EXAMPLE), "page": 4, "moment": 8, "kind": kind}
            check_refusals(self, lambda far, page, moment, kind: wear_of(far, page, moment, kind=kind), good, [
                WRONG_FAR, WRONG_PAGE, WRONG_MOMENT, WRONG_KIND,
            ])
        self.assertEqual(wear_of(far=Far(EXAMPLE), page=0, moment=8, kind=None), 3)
        with self.assertRaises(TypeError):
            wear_of(Far(EXAMPLE), 4, 8, "write")

    def test_worn_out(self):
        wrong = ("life", numbers_but(1, None), InvalidNumber, None)
        check_refusals(self, worn_out, {"far": Far(EXAMPLE), "life": 4}, [WRONG_FAR, wrong])


class InterfaceTest(unittest.TestCase):

    def test_each_function_stands_in_its_file(self):
        for call in [last_writing, most_worn, next_writing, spent, wear_of, wear_row, worn_out, writing]:
            self.assertEqual(call.__module__, "keeprows.wear")
            self.assertIs(getattr(wear, call.__name__), call)

    def test_kinds_of_what_is_returned(self):
        far = Far(EXAMPLE)
        told = [
            wear_row(far, 8), most_worn(far, 8), wear_of(far, 0, 8), writing(far, 0, 2), last_writing(far, 3, 8),
            next_writing(far, 5, 0), spent(far, 8), worn_out(far, 4),
        ]
        self.assertEqual([type(one) for one in told], [list, tuple, int, tuple, tuple, tuple, tuple, tuple])
        wear_row(far, 8).clear()
        self.assertEqual(len(wear_row(far, 8)), 9)


if __name__ == "__main__":
    unittest.main()
