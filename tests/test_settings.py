"""Settings: [5], [6], [7], and what [2] says of them."""

import unittest
from itertools import permutations
from random import Random

from keeprows.errors import InvalidRow, InvalidSettings, StoreError
from keeprows.packing import Packing
from keeprows.settings import Settings

from plain import ROWS, make, strange_objects

PARTS = ["lengths", "size", "fanout", "records", "every", "keep"]
GOOD = {"lengths": [2, 1, 3], "size": 5, "fanout": 2, "records": 3, "every": 4, "keep": 9}
BOUNDS = {"size": (3, 64), "fanout": (2, 8), "records": (1, 16), "every": (1, 40), "keep": (1, 100)}


def wrong_lengths():
    return strange_objects() + [
        0, 1, 5, (2, 1, 3), "213", {2: 0, 1: 0, 3: 0}, [1] * 7, [1] * 100, [0], [-1], [65], [10 ** 30], [2, 1, 0],
        [1, -1], [1, 65], [64, 65], [True], [1, True], [False, 1], [None], [1, None], [1.0], [2, 1.0], ["1"],
        [1, "1"], [[1]], [(1,)], [1, {}], [1, set()], [b"1"], [float("nan")], [1, 1, 1, 1, 1, 0],
    ]


def wrong_numbers(least, most):
    return strange_objects() + [least - 1, most + 1, -least, -1, 0, -10 ** 30, 10 ** 30, float(least), str(least)]


def wrong_objects(part):
    if part == "lengths":
        return [told for told in wrong_lengths() if told != [5]]
    return wrong_numbers(*BOUNDS[part])


class GoodSettingsTest(unittest.TestCase):

    def check_attributes(self, settings, told):
        self.assertIs(type(settings.lengths), tuple)
        self.assertEqual(settings.lengths, tuple(told["lengths"]))
        for part in PARTS[1:]:
            self.assertIs(type(getattr(settings, part)), int)
            self.assertEqual(getattr(settings, part), told[part])

    def test_settings_of_all_sizes(self):
        chance = Random(7)
        for _ in range(2000):
            greatest = chance.choice([1, 2, 5, 20, 63, 64])
            lengths = [chance.randint(1, greatest) for _ in range(chance.randint(1, 6))]
            told = {
                "lengths": lengths, "size": chance.choice([max(lengths), 64, chance.randint(max(lengths), 64)]),
                "fanout": chance.randint(2, 8), "records": chance.randint(1, 16), "every": chance.randint(1, 40),
                "keep": chance.randint(1, 100),
            }
            self.check_attributes(Settings(**told), told)

    def test_settings_at_the_bounds_are_not_refused(self):
        for part, bounds in BOUNDS.items():
            for number in bounds:
                told = {**GOOD, part: number}
                self.check_attributes(Settings(**told), told)
        for lengths, size in [
            ([1], 1), ([1], 64), ([64], 64), ([1] * 6, 1), ([64] * 6, 64), ([1, 2, 3, 4, 5, 64], 64), ([7, 9], 9),
        ]:
            told = {**GOOD, "lengths": lengths, "size": size}
            self.check_attributes(Settings(**told), told)
        least = {"lengths": [1], "size": 1, "fanout": 2, "records": 1, "every": 1, "keep": 1}
        most = {"lengths": [64] * 6, "size": 64, "fanout": 8, "records": 16, "every": 40, "keep": 100}
        for told in [least, most]:
            self.check_attributes(Settings(**told), told)

    def test_the_list_is_neither_kept_nor_changed(self):
        lengths = [2, 1, 3]
        settings = make(lengths, 5)
        self.assertEqual(lengths, [2, 1, 3])
        lengths[0] = 4
        lengths.append(7)
        self.assertEqual(settings.lengths, (2, 1, 3))
        self.assertEqual([settings.length_of(row) for row in range(4)], [2, 1, 3, 2])
        self.assertEqual(settings, make([2, 1, 3], 5))
        del lengths[:]
        self.assertEqual(settings.length_of(3), 2)

    def test_arguments_by_name_in_any_order(self):
        for names in permutations(PARTS):
            self.assertEqual(Settings(**{name: GOOD[name] for name in names}), make([2, 1, 3], 5))
        self.assertEqual(Settings([2, 1, 3], size=5, keep=9, every=4, records=3, fanout=2), make([2, 1, 3], 5))

    def test_behind_the_star_only_by_keyword(self):
        with self.assertRaises(TypeError):
            Settings([2, 1, 3], 5, 2, 3, 4, 9)
        with self.assertRaises(TypeError):
            Settings([2, 1, 3], 5, 2, records=3, every=4, keep=9)

    def test_each_thing_stands_in_its_own_file(self):
        self.assertEqual(Settings.__module__, "keeprows.settings")
        for name in ["__init__", "__eq__", "length_of"]:
            self.assertIn(name, vars(Settings))


class LengthTest(unittest.TestCase):

    def test_rows_near_and_far(self):
        chance = Random(3)
        for many in range(1, 7):
            lengths = [chance.randint(1, 64) for _ in range(many)]
            settings = make(lengths, 64)
            rows = list(range(40)) + [ROWS - 1 - back for back in range(40)]
            rows += [chance.randrange(ROWS) for _ in range(40)] + [2 ** 53 + 1, 2 ** 64 + 1, 10 ** 29]
            for row in rows:
                self.assertEqual(settings.length_of(row), lengths[row % many])
                self.assertEqual(settings.length_of(row=row), lengths[row % many])

    def test_the_example(self):
        self.assertEqual(make([2, 1, 3], 5).length_of(10 ** 29), 1)

    def test_what_is_no_row(self):
        settings = make([2, 1, 3], 5)
        for row in strange_objects() + [-1, -3, -10 ** 30, ROWS, ROWS + 1, 10 ** 60]:
            with self.assertRaises(StoreError) as caught:
                settings.length_of(row)
            self.assertIs(type(caught.exception), InvalidRow)
            self.assertIs(caught.exception.row, row)
        self.assertEqual(settings, make([2, 1, 3], 5))


class EqualityTest(unittest.TestCase):

    def check_unlike(self, one, other):
        self.assertFalse(one == other)
        self.assertFalse(other == one)
        self.assertTrue(one != other)
        self.assertTrue(other != one)

    def test_equal_ones(self):
        for one, other in [
            (make([2, 1, 3], 5), make([2, 1, 3], 5)), (make([64] * 6, 64), make([64] * 6, 64)),
            (make([1], 1, 8, 16, 40, 100), Settings(keep=100, every=40, records=16, fanout=8, size=1, lengths=[1])),
        ]:
            self.assertTrue(one == other)
            self.assertFalse(one != other)
            self.assertTrue(one == one)

    def test_one_part_differs(self):
        one = Settings(**GOOD)
        for part, other in [
            ("lengths", [2, 1, 2]), ("lengths", [1, 2, 3]), ("lengths", [2, 1]), ("lengths", [2, 1, 3, 2, 1, 3]),
            ("size", 6), ("size", 4), ("fanout", 3), ("records", 2), ("records", 4), ("every", 5), ("every", 3),
            ("keep", 8), ("keep", 10),
        ]:
            self.check_unlike(one, Settings(**{**GOOD, part: other}))

    def test_the_same_numbers_in_other_parts(self):
        told = {"lengths": [1], "size": 2, "fanout": 3, "records": 4, "every": 5, "keep": 6}
        for names in permutations(["fanout", "records", "every", "keep"]):
            other = dict(zip(names, [3, 4, 5, 6]))
            if list(names) != ["fanout", "records", "every", "keep"]:
                self.check_unlike(Settings(**told), Settings([1], 2, **other))

    def test_nothing_else_is_equal(self):
        settings = Settings(**GOOD)
        others = [other for other in strange_objects() if not isinstance(other, Settings)]
        others += [5, 0, GOOD, list(GOOD.values()), tuple(GOOD.values()), (2, 1, 3), Packing(settings)]
        others += [((2, 1, 3), 5, 2, 3, 4, 9)]
        for other in others:
            self.check_unlike(settings, other)


class WrongSettingsTest(unittest.TestCase):

    def check_refused(self, told, part):
        with self.assertRaises(StoreError) as caught:
            Settings(**told)
        self.assertIs(type(caught.exception), InvalidSettings)
        self.assertEqual(caught.exception.part, part)

    def test_one_wrong_part(self):
        for part in PARTS:
            for told in wrong_objects(part):
                with self.subTest(part=part, told=repr(told)):
                    self.check_refused({**GOOD, part: told}, part)

    def test_a_bool_in_the_place_of_one(self):
        told = {"lengths": [1], "size": 1, "fanout": 2, "records": 1, "every": 1, "keep": 1}
        for part in PARTS[1:]:
            self.check_refused({**told, part: True}, part)
        self.check_refused({**told, "lengths": [True]}, "lengths")

    def test_a_size_below_a_length(self):
        for lengths, size in [([64], 63), ([2, 1, 3], 2), ([1, 1, 1, 1, 1, 64], 63), ([9, 1], 8), ([1], 0)]:
            self.check_refused({**GOOD, "lengths": lengths, "size": size}, "size")

    def test_a_length_above_the_size_bound_is_a_wrong_length(self):
        for size in [64, 65, 66, 100]:
            self.check_refused({**GOOD, "lengths": [65], "size": size}, "lengths")

    def test_of_two_wrong_parts_the_first_is_told(self):
        for at, part in enumerate(PARTS):
            for later in PARTS[at + 1:]:
                for told in wrong_objects(part)[::5]:
                    for other in wrong_objects(later)[::7]:
                        self.check_refused({**GOOD, later: other, part: told}, part)

    def test_all_parts_wrong(self):
        for told in strange_objects():
            if told != [5]:
                self.check_refused({part: told for part in PARTS}, "lengths")

    def test_a_refused_list_is_not_changed(self):
        lengths = [2, 1, 3]
        self.check_refused({**GOOD, "lengths": lengths, "keep": 0}, "keep")
        self.assertEqual(lengths, [2, 1, 3])
        lengths = [0, None, {}]
        self.check_refused({**GOOD, "lengths": lengths}, "lengths")
        self.assertEqual(lengths, [0, None, {}])


if __name__ == "__main__":
    unittest.main()
