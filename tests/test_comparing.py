"""Stores compared: [80] to [84]."""

import time
import unittest
from random import Random

from keeprows import comparing
from keeprows.comparing import first_parting, least_files, next_larger, turning_points
from keeprows.errors import InvalidArgument, InvalidNumber, InvalidSettings, LimitExceeded
from keeprows.far import Far
from keeprows.sizes import growths
from keeprows.stores import Store

from model import PlainStore, far_settings, many_settings
from plain import ROWS, make
from refusals import WRONG_MOMENT, check_refusals, fars_but, numbers_but, settings_but

EXAMPLE = make([1], 2, 2, 2, 4, 3)
LOW = make([1], 2, 2, 2, 4, 1)
NEAR = 700


def parts_of(settings):
    return {
        "lengths": list(settings.lengths), "size": settings.size, "fanout": settings.fanout,
        "records": settings.records, "every": settings.every, "keep": settings.keep,
    }


def sizes_of(settings, many):
    """How many pages the file has behind 0, 1, 2 .. rows, counted row by row."""
    store, sizes = Store(settings), [0]
    while len(sizes) <= many:
        store.step()
        sizes.append(store.file_size())
    return sizes


class PartingTest(unittest.TestCase):

    def plain_parting(self, one, other, kind=PlainStore, most=6000):
        first, second = kind(one), kind(other)
        for row in range(most):
            if first.step() != second.step():
                return row
        raise AssertionError("they do not part")

    def unlike(self, settings, chance):
        """Settings of which one part is otherwise, if that can be."""
        parts = parts_of(settings)
        parts[chance.choice(["fanout", "records", "every", "keep", "size"])] += chance.choice([-1, 1, 2])
        try:
            return make(*parts.values())
        except LookupError:
            return settings

    def test_against_plain_stores(self):
        chance = Random(501)
        found = 0
        for settings in many_settings(502, 70, 40, 20):
            other = self.unlike(settings, chance)
            row = first_parting(settings, other)
            if row is None:
                for _ in range(2):
                    with self.assertRaises(AssertionError):
                        self.plain_parting(settings, other, Store, 600)
            else:
                found += 1
                self.assertEqual(row, self.plain_parting(settings, other), (vars(settings), vars(other)))
                self.assertEqual(first_parting(other, settings), row)
        self.assertGreater(found, 30)

    def test_all_kinds_of_settings(self):
        chance = Random(503)
        many = many_settings(504, 60)
        for _ in range(200):
            one, other = chance.choice(many), chance.choice(many)
            row = first_parting(one, other)
            if row is not None:
                self.assertEqual(row, self.plain_parting(one, other, Store))

    def test_stores_that_never_part(self):
        for settings in many_settings(505, 40):
            parts = parts_of(settings)
            alike = [{**parts, "lengths": parts["lengths"] * times} for times in (1, 2, 3) if len(parts["lengths"]) * times < 7]
            if settings.size <= 32:
                alike.append({**parts, "lengths": [2 * length for length in settings.lengths], "size": 2 * settings.size})
            if settings.records >= settings.every:
                alike += [{**parts, "records": records} for records in range(settings.every, 17)]
            for told in alike:
                other = make(*told.values())
                self.assertIsNone(first_parting(settings, other))
                self.assertIsNone(first_parting(other, settings))
                first, second = Store(settings), Store(other)
                for _ in range(300):
                    self.assertEqual(first.step(), second.step())

    def test_a_size_that_no_row_uses(self):
        self.assertIsNone(first_parting(make([2], 4), make([2], 5)))
        self.assertIsNone(first_parting(make([3, 3], 7), make([1], 2)))
        self.assertEqual(first_parting(make([2], 5), make([2], 6)), 2)
        self.assertEqual(first_parting(make([1], 64, 7, keep=1), make([1], 64, 8, keep=1)), 448)
        self.assertIsNone(first_parting(make([1], 2, 2, 5, 4), make([1], 2, 2, 4, 4)))
        self.assertEqual(first_parting(make([1], 2, 2, 3, 4), make([1], 2, 2, 4, 4)), 3)


class LargerTest(unittest.TestCase):

    def test_near_ones(self):
        chance = Random(511)
        many = far_settings(512, 30)
        for _ in range(60):
            one, other = chance.choice(many), chance.choice(many)
            first, second = sizes_of(one, NEAR), sizes_of(other, NEAR)
            far, low = Far(one), Far(other)
            for moment in [0, 1, 2] + [chance.randint(0, NEAR) for _ in range(20)]:
                found = [n for n in range(moment, NEAR + 1) if first[n] > second[n]]
                told = next_larger(far, low, moment)
                if found:
                    self.assertEqual(told, found[0])
                else:
                    self.assertTrue(told is None or told > NEAR)

    def test_far_ones(self):
        chance = Random(513)
        many = [Far(settings) for settings in far_settings(514, 20)]
        nones = found = 0
        for _ in range(150):
            one, other, moment = chance.choice(many), chance.choice(many), chance.randint(0, 10 ** chance.randint(1, 30))
            told = next_larger(one, other, moment)
            if told is None:
                nones += 1
                for n in [moment, ROWS] + [chance.randint(moment, ROWS) for _ in range(4)]:
                    self.assertLessEqual(one.behind(n).file_size(), other.behind(n).file_size())
                continue
            self.assertGreater(one.behind(told).file_size(), other.behind(told).file_size())
            if told > moment:
                found += 1
                for n in [moment, told - 1] + [chance.randint(moment, told - 1) for _ in range(4)]:
                    self.assertLessEqual(one.behind(n).file_size(), other.behind(n).file_size())
        self.assertGreater(nones, 30)
        self.assertGreater(found, 5)

    def test_a_store_and_itself(self):
        for settings in far_settings(515, 5):
            far = Far(settings)
            for moment in [0, 77, ROWS]:
                self.assertIsNone(next_larger(far, far, moment))
                self.assertIsNone(next_larger(far, Far(settings), moment))

    def test_the_last_moment(self):
        far, low = Far(EXAMPLE), Far(LOW)
        self.assertGreater(far.behind(ROWS).file_size(), low.behind(ROWS).file_size())
        self.assertEqual([next_larger(far, low, ROWS), next_larger(low, far, ROWS)], [ROWS, None])


class LeastTest(unittest.TestCase):

    def plain_least(self, sizes, moment):
        found = [told[moment] for told in sizes]
        return [at for at, size in enumerate(found) if size == min(found)]

    def test_near_ones(self):
        chance = Random(521)
        many = far_settings(522, 25)
        for _ in range(40):
            chosen = [chance.choice(many) for _ in range(chance.randint(1, 5))]
            chosen.append(chance.choice(chosen))
            fars, sizes = [Far(settings) for settings in chosen], [sizes_of(settings, NEAR) for settings in chosen]
            least = [self.plain_least(sizes, n) for n in range(NEAR + 1)]
            for moment in [0, 1, 5, NEAR] + [chance.randint(0, NEAR) for _ in range(10)]:
                self.assertEqual(least_files(fars, moment), least[moment])
            for first, last in [(0, NEAR), (0, 0), (NEAR, NEAR), (3, 90)] + [
                sorted([chance.randint(0, NEAR), chance.randint(0, NEAR)]) for _ in range(5)
            ]:
                points = [(first, least[first])]
                points += [(n, least[n]) for n in range(first + 1, last + 1) if least[n] != least[n - 1]]
                self.check_points(fars, first, last, points)

    def check_points(self, fars, first, last, points):
        if len(points) <= 20:
            self.assertEqual(turning_points(fars, first, last), points)
        else:
            with self.assertRaises(LimitExceeded) as caught:
                turning_points(fars, first, last)
            self.assertEqual(caught.exception.limit, 20)

    def test_just_for_more_than_twenty(self):
        chance = Random(523)
        many = [make([1], 2, 2, 2, 4, 3), make([1], 2, 2, 3, 4, 3), make([1], 2, 3, 2, 4, 3)] + far_settings(524, 12)
        limited = 0
        for _ in range(60):
            fars = [Far(settings) for settings in chance.sample(many, 3)]
            points = [(0, least_files(fars, 0))]
            moments = sorted({n for far in fars for n, _ in self.all_growths(far)})
            for n in moments:
                if least_files(fars, n) != points[-1][1]:
                    points.append((n, least_files(fars, n)))
            if len(points) > 20:
                limited += 1
                self.check_points(fars, 0, points[20][0] - 1, points[:20])
                for last in [points[20][0], ROWS]:
                    self.check_points(fars, 0, last, points)
                for at in [1, 5, len(points) - 20]:
                    self.check_points(fars, points[at][0], points[min(at + 20, len(points)) - 1][0], points[at:at + 20])
            else:
                self.check_points(fars, 0, ROWS, points)
        self.assertGreater(limited, 2)

    def all_growths(self, far):
        """All growths of a file, some at a time."""
        found, first, step = [], 0, 1
        while first < ROWS:
            last = min(ROWS, first + step)
            try:
                found += growths(far, first, last)
                first, step = last, 2 * step
            except LimitExceeded:
                step = max(1, step // 4)
        return found

    def test_far_ones(self):
        chance = Random(525)
        many = [Far(settings) for settings in far_settings(526, 15)]
        for _ in range(40):
            fars = [chance.choice(many) for _ in range(chance.randint(1, 6))]
            first = chance.randint(0, 10 ** chance.randint(5, 30))
            last = chance.randint(first, ROWS)
            for moment in [first, last]:
                found = [far.behind(moment).file_size() for far in fars]
                least = [at for at, size in enumerate(found) if size == min(found)]
                self.assertEqual(least_files(fars, moment), least)
            try:
                points = turning_points(fars, first, last)
            except LimitExceeded:
                continue
            self.assertEqual(points[0], (first, least_files(fars, first)))
            for (n, before), (later, least) in zip(points, points[1:] + [(last + 1, None)]):
                self.assertNotEqual(before, least)
                for moment in [n, later - 1, chance.randint(n, later - 1)]:
                    self.assertEqual(least_files(fars, moment), before)

    def test_one_store_and_a_store_twice(self):
        far, low = Far(EXAMPLE), Far(LOW)
        self.assertEqual(turning_points([far], 0, ROWS), [(0, [0])])
        self.assertEqual(turning_points([far, far], 5, ROWS), [(5, [0, 1])])
        self.assertEqual(least_files([low, far, low], ROWS), [0, 2])
        self.assertEqual(least_files([far] * 6, 9), [0, 1, 2, 3, 4, 5])

    def test_what_is_returned_is_new_and_nothing_is_kept(self):
        fars = [Far(EXAMPLE), Far(LOW)]
        told = turning_points(fars, 0, 5)
        told[0][1].clear()
        told.clear()
        self.assertEqual(turning_points(fars, 0, 5), [(0, [0, 1]), (5, [1])])
        self.assertEqual(len(fars), 2)


class SpeedTest(unittest.TestCase):

    def test_some_hundred_far_questions(self):
        chance = Random(531)
        one, other = Far(make([1], 2, 2, 2, 4, 3)), Far(make([1], 2, 2, 3, 4, 3))
        before = time.process_time()
        for _ in range(300):
            moment = ROWS - chance.randint(0, 10 ** 29)
            next_larger(one, other, moment)
            next_larger(other, one, moment)
            self.assertGreater(len(least_files([one, other], moment)), 0)
            self.assertGreater(len(turning_points([one, other], moment, ROWS)), 0)
        self.assertLess(time.process_time() - before, 30)


def wrong_fars():
    far = Far(EXAMPLE)
    wrong = fars_but() + [far, (far,), [far] * 7, [far] * 100, {0: far}]
    return wrong + [[far, told] for told in fars_but()] + [[told] for told in fars_but()]


class WrongArgumentsTest(unittest.TestCase):

    def test_first_parting(self):
        wrong = [(name, settings_but(), InvalidSettings, "settings") for name in ("one", "other")]
        check_refusals(self, first_parting, {"one": EXAMPLE, "other": LOW}, wrong)

    def test_next_larger(self):
        good = {"one": Far(EXAMPLE), "other": Far(LOW), "moment": 5}
        wrong = [(name, fars_but(), InvalidArgument, name) for name in ("one", "other")]
        check_refusals(self, next_larger, good, wrong + [WRONG_MOMENT])

    def test_least_files_and_turning_points(self):
        fars = [Far(EXAMPLE), Far(LOW)]
        wrong = ("fars", wrong_fars(), InvalidArgument, "fars")
        check_refusals(self, least_files, {"fars": fars, "moment": 5}, [wrong, WRONG_MOMENT])
        for first, last in [(0, 5), (9, 9), (ROWS, ROWS)]:
            check_refusals(self, turning_points, {"fars": fars, "first": first, "last": last}, [
                wrong, ("first", numbers_but(0, ROWS), InvalidNumber, None),
                ("last", numbers_but(first, ROWS), InvalidNumber, None),
            ])


class InterfaceTest(unittest.TestCase):

    def test_each_function_stands_in_its_file(self):
        for call in [first_parting, least_files, next_larger, turning_points]:
            self.assertEqual(call.__module__, "keeprows.comparing")
            self.assertIs(getattr(comparing, call.__name__), call)

    def test_kinds_of_what_is_returned(self):
        fars = [Far(EXAMPLE), Far(LOW)]
        told = turning_points(fars, 0, 5)
        self.assertEqual([type(told), type(told[0]), type(told[0][1])], [list, tuple, list])
        self.assertEqual([type(least_files(fars, 4)), type(next_larger(*fars, 0))], [list, int])


if __name__ == "__main__":
    unittest.main()
