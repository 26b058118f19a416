"""Heights and file sizes: [75] to [79], and what [2], [3] and [7] say of them."""

import time
import unittest
from random import Random
from unittest.mock import patch

from keeprows import sizes
from keeprows.blocks import uses
from keeprows.errors import InvalidNumber, LimitExceeded
from keeprows.far import Far
from keeprows.packing import Packing
from keeprows.phases import blocks
from keeprows.sizes import greatest_height, grown, growths, height_count, height_sum, next_height
from keeprows.stores import Store
from keeprows.trees import next_border, tree_height

from model import far_settings, is_limited, many_settings, special_settings
from plain import ROWS, make
from refusals import WRONG_FAR, WRONG_MOMENT, WRONG_SETTINGS, check_refusals, numbers_but

FUNCTIONS = [height_count, height_sum, next_height, greatest_height, grown, growths]
EACH_ITS_OWN = make([1], 1, 2, 4, 10, 3)
EXAMPLE = make([1], 2, 2, 2, 4, 3)
NEAR = 420


def heights_of(settings, first, after):
    return [tree_height(settings, moment) for moment in range(first, after)]


def far_starts(settings, chance, many):
    """First moments of stretches, about borders of great levels, and the last ones."""
    packing = Packing(settings)
    last, found = packing.page_of(ROWS - 1), [ROWS - 200]
    while len(found) < many:
        step = settings.fanout ** chance.randint(1, 99)
        if step <= last:
            found.append(packing.first_row(chance.randint(1, last // step) * step) - chance.randint(0, 150))
    return [max(0, min(moment, ROWS - 200)) for moment in found]


class HeightTest(unittest.TestCase):

    def check_stretch(self, settings, first, heights):
        """Check what is told of a stretch, from the heights behind its numbers of rows."""
        last = first + len(heights)
        self.assertEqual(height_sum(settings, first, last), sum(heights))
        for least in [1, 2, 3, max(heights + [1]), 30, 110, 111]:
            found = sum(height >= least for height in heights)
            self.assertEqual(height_count(settings, least, first, last), found, (vars(settings), least, first, last))
        told = (max(heights), first + heights.index(max(heights))) if heights else None
        self.assertEqual(greatest_height(settings, first, last), told)

    def test_near_stretches(self):
        chance = Random(171)
        for settings in many_settings(171, 60):
            heights = heights_of(settings, 0, NEAR)
            self.check_stretch(settings, 0, heights)
            for first in [0, 0, 0, 1, 2] + [chance.randint(0, NEAR) for _ in range(12)]:
                last = chance.choice([first, first + 1, first + 2, chance.randint(first, max(first, NEAR - 1))])
                if last < NEAR:
                    self.check_stretch(settings, first, heights[first:last])

    def test_far_stretches(self):
        chance = Random(172)
        for settings in many_settings(172, 40):
            for first in far_starts(settings, chance, 5):
                self.check_stretch(settings, first, heights_of(settings, first, first + chance.randint(0, 200)))

    def test_the_last_stretch(self):
        for settings in many_settings(173, 20):
            self.check_stretch(settings, ROWS - 50, heights_of(settings, ROWS - 50, ROWS))
            self.check_stretch(settings, ROWS, [])

    def test_far_stretches_added_up_of_parts(self):
        chance = Random(174)
        for settings in many_settings(174, 60):
            cuts = sorted([0, 1, ROWS] + [chance.randint(0, 10 ** chance.randint(1, 30)) for _ in range(6)])
            cuts += [cuts[-1]]
            parts = list(zip(cuts, cuts[1:]))
            self.assertEqual(height_sum(settings, 0, ROWS), sum(height_sum(settings, *part) for part in parts))
            for least in [1, 2, 3, 5, 20, 60, 90, 111]:
                found = [height_count(settings, least, *part) for part in parts]
                self.assertEqual(height_count(settings, least, 0, ROWS), sum(found))
            found = [greatest_height(settings, *part) for part in parts]
            self.assertEqual(found[-1], None)
            height = max(told[0] for told in found if told)
            first = min(told[1] for told in found if told and told[0] == height)
            self.assertEqual(greatest_height(settings, 0, ROWS), (height, first))

    def test_all_borders_of_a_level_counted(self):
        # Where borders lie farther apart than keep rows, each one counts keep - 1 times.
        for settings in many_settings(175, 40):
            packing = Packing(settings)
            last = packing.page_of(ROWS - 2)
            for level in range(7, 111, 9):
                step = settings.fanout ** level
                borders = last // step
                count = borders * (settings.keep - 1)
                if borders:
                    ended = min(settings.keep - 1, ROWS - 1 - packing.first_row(borders * step))
                    count += ended - settings.keep + 1
                self.assertEqual(height_count(settings, level + 1, 0, ROWS), count)

    def test_the_sum_of_all_counts(self):
        chance = Random(176)
        for settings in many_settings(176, 15):
            for first in [0, 5] + far_starts(settings, chance, 3):
                last = chance.randint(first, ROWS)
                counts = [height_count(settings, least, first, last) for least in range(1, 112)]
                self.assertEqual(height_sum(settings, first, last), sum(counts))
                self.assertEqual(counts, sorted(counts, reverse=True))

    def test_the_fact_about_heights(self):
        for settings in many_settings(177, 20):
            for level in range(1, 4):
                behind, border = set(), next_border(settings, 0, level)
                while border[0] < NEAR:
                    behind |= set(range(border[0] + 1, border[0] + settings.keep))
                    border = next_border(settings, border[0] + 1, level)
                for moment, height in enumerate(heights_of(settings, 0, NEAR)):
                    self.assertEqual(height >= level + 1, moment in behind)


class NextHeightTest(unittest.TestCase):

    def test_near_ones(self):
        for settings in many_settings(181, 50):
            heights = heights_of(settings, 0, NEAR)
            for moment in range(0, NEAR, 7):
                for least in range(1, 8):
                    found = [at for at in range(moment, NEAR) if heights[at] >= least]
                    told = next_height(settings, moment, least)
                    if found:
                        self.assertEqual(told, found[0])
                    else:
                        self.assertTrue(told is None or told >= NEAR)

    def test_far_ones(self):
        chance = Random(182)
        nones = 0
        for settings in many_settings(182, 40):
            for moment in far_starts(settings, chance, 6) + [0, ROWS - 1, ROWS]:
                for least in [1, 2, 3, 10, 40, 70, 90, 100, 111]:
                    told = next_height(settings, moment, least)
                    after = ROWS + 1 if told is None else told
                    self.assertEqual(height_count(settings, least, moment, min(after, ROWS)), 0)
                    if told is None:
                        nones += 1
                        self.assertLess(tree_height(settings, ROWS), least)
                    else:
                        self.assertGreaterEqual(told, moment)
                        self.assertGreaterEqual(tree_height(settings, told), least)
        self.assertGreater(nones, 100)

    def test_told_by_hand(self):
        self.assertEqual(next_height(EACH_ITS_OWN, 0, 100), 2 ** 99 + 1)
        self.assertEqual(next_height(EACH_ITS_OWN, 2 ** 99 + 2, 100), 2 ** 99 + 2)
        self.assertIsNone(next_height(EACH_ITS_OWN, 2 ** 99 + 3, 100))
        self.assertIsNone(next_height(EACH_ITS_OWN, 0, 101))
        self.assertEqual([next_height(EACH_ITS_OWN, 0, 1), next_height(EACH_ITS_OWN, ROWS, 1)], [1, ROWS])
        # 10 ** 30 is a multiple of 2 ** 30, but row 10 ** 30 is none: heap page 10 ** 30 never begins.
        self.assertIsNone(next_height(EACH_ITS_OWN, ROWS - 5, 10))
        self.assertEqual(next_height(EACH_ITS_OWN, ROWS - 1, 2), ROWS - 1)
        settings = make([1], 1, 2, 4, 10, 1)
        self.assertEqual([next_height(settings, 0, 1), next_height(settings, 0, 2)], [1, None])
        self.assertEqual(greatest_height(settings, 0, ROWS), (1, 1))
        self.assertEqual(height_sum(settings, 0, ROWS), ROWS - 1)
        self.assertEqual(greatest_height(EACH_ITS_OWN, 0, ROWS), (100, 2 ** 99 + 1))
        self.assertEqual([greatest_height(EACH_ITS_OWN, 0, 1), greatest_height(EACH_ITS_OWN, 0, 0)], [(0, 0), None])


    def test_greatest_heights_step_by_step(self):
        # From the first height on, each greater one is looked for with the one ahead of it.
        chance = Random(183)
        for settings in many_settings(183, 60):
            for first in far_starts(settings, chance, 8) + [0, 1, chance.randint(0, ROWS - 200)]:
                last = min(ROWS, first + chance.randint(1, 10 ** chance.randint(1, 30)))
                found = (tree_height(settings, first), first)
                while True:
                    later = next_height(settings, first, found[0] + 1)
                    if later is None or later >= last:
                        break
                    found = (found[0] + 1, later)
                self.assertEqual(greatest_height(settings, first, last), found, (vars(settings), first, last))


class SpeedTest(unittest.TestCase):

    def test_thousands_of_questions(self):
        chance = Random(184)
        for settings in [make([1, 2, 1, 3, 1, 1], 4, 2, 4, 10, 60), make([1], 1, 2, 4, 10, 100), EXAMPLE]:
            before = time.process_time()
            for _ in range(1000):
                first = chance.randint(0, 300)
                self.assertGreaterEqual(height_sum(settings, first, first + chance.randint(0, 300)), 0)
                self.assertGreater(height_sum(settings, chance.randint(0, 10 ** 29), ROWS), 0)
                self.assertGreater(height_count(settings, 3, chance.randint(0, 10 ** 29), ROWS), 0)
                self.assertGreater(greatest_height(settings, chance.randint(0, 10 ** 29), ROWS)[0], 80)
                self.assertGreater(next_height(settings, chance.randint(0, 10 ** 29), 80), 0)
            # A thousand of each take some tenths of a second; the limit is for slow machines.
            self.assertLess(time.process_time() - before, 3)


class FileTest(unittest.TestCase):

    def test_near_growths(self):
        for settings in far_settings(191, 40):
            far, store, found, size = Far(settings), Store(settings), [], 0
            while store.moment() < 900:
                store.step()
                if store.file_size() > size:
                    for pages in range(size + 1, store.file_size() + 1):
                        self.assertEqual(grown(far, pages), store.moment())
                    size = store.file_size()
                    found.append((store.moment(), size))
            for first, last in [(0, 900), (0, 5), (0, 0), (3, 40), (40, 899), (300, 900), (found[0][0], found[-1][0])]:
                told = [growth for growth in found if first < growth[0] <= last]
                if len(told) <= 20:
                    self.assertEqual(growths(far, first, last), told)
                else:
                    with self.assertRaises(LimitExceeded):
                        growths(far, first, last)

    def check_all_growths(self, settings, rows):
        """Check the moments of all sizes, and the growths one by one, for so many rows."""
        far, store, size = Far(settings), Store(settings), 0
        while store.moment() < rows:
            store.step()
            if store.file_size() > size:
                for pages in range(size + 1, store.file_size() + 1):
                    self.assertEqual(grown(far, pages), store.moment())
                size = store.file_size()
                told = growths(far, store.moment() - 1, store.moment())
                self.assertEqual(told, [(store.moment(), size)])
        self.assertTrue(grown(far, size + 1) is None or grown(far, size + 1) > rows)

    def test_several_thousand_rows(self):
        for settings in [one for one in special_settings() if not is_limited(one)]:
            self.check_all_growths(settings, 4000)

    def test_a_growth_in_a_block_with_few_zeros(self):
        # Block 6 is the first one with 53 pages, though block 4 ends with more zeros.
        settings = make([3, 2, 5, 1], 6, 2, 3, 14, 23)
        far = Far(settings)
        self.assertEqual(far.block_of(grown(far, 53) - 1), 6)

    def test_no_moment_behind_the_last_one(self):
        # With another last row the program finds the same growths up to there, and no later one.
        for settings in [EXAMPLE, make([1, 2, 1], 2, 3, 13, 12, 25)]:
            for size in [1, 5, 10, 30, 50, 100]:
                moment = grown(Far(settings), size)
                with patch("keeprows.growth.ROWS", moment), patch("keeprows.searches.ROWS", moment):
                    far = Far(settings)
                    self.assertEqual(grown(far, size), moment)
                    self.assertEqual(growths(far, moment - 1, moment), [(moment, far.behind(moment).file_size())])
                for last in [moment - 1, moment - 2, moment // 2]:
                    with patch("keeprows.growth.ROWS", last), patch("keeprows.searches.ROWS", last):
                        self.assertIsNone(grown(Far(settings), size))

    def test_far_sizes(self):
        for settings in far_settings(192, 30):
            far = Far(settings)
            most = far.behind(ROWS).file_size()
            for size in list(range(1, most, 7)) + [most - 1, most]:
                moment = grown(far, size)
                self.assertGreaterEqual(far.behind(moment).file_size(), size)
                self.assertLess(far.behind(moment - 1).file_size(), size)
            for size in [most + 1, most + 2, 1000, 10 ** 30, 10 ** 60]:
                self.assertIsNone(grown(far, size))

    def test_far_growths(self):
        chance = Random(193)
        found = 0
        for settings in far_settings(193, 25):
            far = Far(settings)
            for exponent in [6, 9, 12, 20, 24, 28]:
                first, last = 10 ** exponent + chance.randint(0, 10 ** 5), 10 ** min(30, exponent + 3)
                told = growths(far, first, last)
                found += len(told)
                size = far.behind(first).file_size()
                for moment, pages in told:
                    self.assertTrue(first < moment <= last)
                    self.assertEqual(far.behind(moment - 1).file_size(), size)
                    self.assertEqual(far.behind(moment).file_size(), pages)
                    self.assertLess(size, pages)
                    size = pages
                self.assertEqual(far.behind(last).file_size(), size)
        self.assertGreater(found, 200)

    def test_just_for_more_than_twenty(self):
        limited = 0
        for settings in far_settings(194, 15):
            far, store, found = Far(settings), Store(settings), []
            while store.moment() < 3000 and len(found) < 26:
                size = store.file_size()
                store.step()
                if store.file_size() > size:
                    found.append((store.moment(), store.file_size()))
            if len(found) > 20:
                limited += 1
                self.assertEqual(growths(far, 0, found[19][0]), found[:20])
                self.assertEqual(growths(far, 0, found[20][0] - 1), found[:20])
                for first, last in [(0, found[20][0]), (found[0][0] - 1, found[20][0]), (0, ROWS), (0, 10 ** 6)]:
                    with self.assertRaises(LimitExceeded) as caught:
                        growths(far, first, last)
                    self.assertEqual(caught.exception.limit, 20)
                self.assertEqual(growths(far, found[0][0], found[20][0]), found[1:21])
        self.assertGreater(limited, 2)

    def test_the_last_moments(self):
        for settings in far_settings(195, 10):
            far = Far(settings)
            self.assertEqual([growths(far, ROWS, ROWS), growths(far, 0, 0)], [[], []])
            self.assertEqual(growths(far, ROWS - 3, ROWS), [])
            self.assertEqual(growths(far, 0, 1), [(1, 3)])

    def test_the_fact_about_blocks_that_grow(self):
        # Far away the file grows only in blocks that end with more zeros than most others.
        for settings in [EXAMPLE, EACH_ITS_OWN, make([2, 1, 3], 5, 3, 3, 4, 9)]:
            far, width = Far(settings), blocks(settings)[0]
            for moment, _ in growths(far, 10 ** 15, 10 ** 18):
                self.assertEqual(far.block_of(moment - 1) % settings.fanout ** 12, 0)
                self.assertLess(len(uses(far.behind(moment))), width * settings.fanout + 300)


WRONG_LEAST = ("least", numbers_but(1, 111), InvalidNumber, None)
WRONG_FIRST = ("first", numbers_but(0, ROWS), InvalidNumber, None)


def wrong_last(first):
    return ("last", numbers_but(first, ROWS), InvalidNumber, None)


class WrongArgumentsTest(unittest.TestCase):

    def test_height_count(self):
        for least, first, last in [(3, 0, 11), (1, 7, 7), (111, 5, ROWS), (2, ROWS, ROWS)]:
            good = {"settings": EACH_ITS_OWN, "least": least, "first": first, "last": last}
            wrong = [WRONG_SETTINGS, WRONG_LEAST, WRONG_FIRST, wrong_last(first)]
            check_refusals(self, height_count, good, wrong)

    def test_height_sum_and_greatest_height(self):
        for call in [height_sum, greatest_height]:
            for first, last in [(0, 7), (9, 9), (ROWS - 5, ROWS)]:
                good = {"settings": EACH_ITS_OWN, "first": first, "last": last}
                check_refusals(self, call, good, [WRONG_SETTINGS, WRONG_FIRST, wrong_last(first)])

    def test_next_height(self):
        good = {"settings": EACH_ITS_OWN, "moment": 7, "least": 4}
        check_refusals(self, next_height, good, [WRONG_SETTINGS, WRONG_MOMENT, WRONG_LEAST])

    def test_grown(self):
        wrong = [WRONG_FAR, ("size", numbers_but(1, None), InvalidNumber, None)]
        check_refusals(self, grown, {"far": Far(EXAMPLE), "size": 10}, wrong)

    def test_growths(self):
        for first, last in [(0, 20), (9, 9), (ROWS, ROWS)]:
            good = {"far": Far(EXAMPLE), "first": first, "last": last}
            check_refusals(self, growths, good, [WRONG_FAR, WRONG_FIRST, wrong_last(first)])


class InterfaceTest(unittest.TestCase):

    def test_each_function_stands_in_its_file(self):
        for call in FUNCTIONS:
            self.assertEqual(call.__module__, "keeprows.sizes")
            self.assertIs(getattr(sizes, call.__name__), call)

    def test_kinds_of_what_is_returned(self):
        far = Far(EXAMPLE)
        told = [
            height_count(EACH_ITS_OWN, 3, 0, 11), height_sum(EACH_ITS_OWN, 0, 7), next_height(EACH_ITS_OWN, 7, 4),
            grown(far, 10), greatest_height(EACH_ITS_OWN, 0, 9), growths(far, 0, 20), growths(far, 0, 20)[0],
        ]
        self.assertEqual([type(one) for one in told], [int, int, int, int, tuple, list, tuple])

    def test_heights_have_no_limit_of_phases(self):
        settings = make([1], 1, 8, 3, 17, 100)
        self.assertEqual(height_sum(settings, 0, 10), 10)


if __name__ == "__main__":
    unittest.main()
