"""The store at a far row: [45] to [49], [34], [35] and [43] of its books, and what [2] and [3] say of them."""

import time
import unittest
from random import Random

from keeprows.blocks import uses
from keeprows.courses import Course
from keeprows.errors import InvalidNumber, LimitExceeded
from keeprows.far import Far
from keeprows.packing import Packing
from keeprows.phases import blocks, phases
from keeprows.spans import run_spans
from keeprows.stores import Book, Store
from keeprows.turns import Tally, Turn, both

from model import answers, far_settings, newest_rows, plain_copy, row_answers
from plain import ROWS, make
from refusals import WRONG_SETTINGS, check_refusals, numbers_but

EXAMPLE = make([1], 2, 2, 2, 4, 3)
# So many pages of the list are looked at: more than any store here has.
MANY = 1000


def begin_of(settings, block):
    return Packing(settings).first_row(block * blocks(settings)[0])


def last_block(settings):
    """The last block that begins with a row ahead of row 10 ** 30."""
    return Packing(settings).page_of(ROWS - 1) // blocks(settings)[0]


def far_last(settings):
    """The same, also if this is the block that begins just behind 10 ** 30 rows."""
    last, packing = last_block(settings), Packing(settings)
    page = packing.page_of(ROWS - 1)
    ends = packing.first_row(page) + packing.rows_on(page) == ROWS
    return last + (ends and (last + 1) * blocks(settings)[0] == page + 1)


def zeros_of(fanout, block):
    zeros = 0
    while block % fanout == 0:
        block, zeros = block // fanout, zeros + 1
    return zeros


def far_blocks(settings, chance, many):
    """Numbers of blocks, near and far, with few zeros and with many."""
    first, last = blocks(settings)[1], last_block(settings)
    found = [first, first + 1, first + 2, last - 4, 10 ** 12]
    while len(found) < many:
        step = settings.fanout ** chance.randint(0, 90)
        if 3 * step < last:
            found.append(chance.randint(1, last // step - 1) * step - chance.randint(0, 2))
    return [block for block in found if first <= block <= last - 4]


def page_at(book, place):
    """The page at a place of a book's store."""
    where, number = place
    return uses(book)[number] if where == "use" else book.free_pages(MANY)[number]


def run_plainly(settings, far, first, last):
    """Do the rows of some blocks one by one: (Turn, Tally) of the blocks from first to last - 1."""
    store = plain_copy(settings, far.behind(begin_of(settings, first)))
    used, free = uses(store), store.free_pages(MANY)
    place_of = {page: ("use", number) for number, page in enumerate(used)}
    place_of.update({page: ("list", number) for number, page in enumerate(free)})
    counts = {}
    while store.done < begin_of(settings, last):
        for event in store.step():
            kind = event[2][0] if event[0] == "take" else event[0]
            if kind in ("heap", "node", "log", "record", "write"):
                told = counts.setdefault(place_of[event[1]], {})
                told[kind] = told.get(kind, 0) + 1
    front = store.free_pages(MANY - len(uses(store)))
    fresh = len(uses(store)) + len(front) - len(used)
    turn = Turn([place_of[page] for page in uses(store)], [place_of[page] for page in front], fresh)
    return turn, Tally(counts)


class NearTest(unittest.TestCase):

    def test_the_first_moments_one_by_one(self):
        for settings in far_settings(131, 25):
            far, store = Far(settings), Store(settings)
            for moment in range(260):
                book, rows = far.behind(moment), newest_rows(settings, moment)
                self.assertEqual(answers(book), answers(store), (vars(settings), moment))
                self.assertEqual(uses(book), uses(store))
                if moment % 10 == 0:
                    self.assertEqual(row_answers(book, rows), row_answers(store, rows))
                store.step()

    def test_several_thousand_rows(self):
        chance = Random(132)
        for settings in far_settings(132, 40):
            far, store = Far(settings), Store(settings)
            while store.moment() < 6000:
                store.steps(chance.randint(1, 200))
                book, rows = far.behind(store.moment()), newest_rows(settings, store.moment())
                self.assertEqual(answers(book), answers(store), (vars(settings), store.moment()))
                self.assertEqual(book.free_pages(MANY), store.free_pages(MANY))
                self.assertEqual(row_answers(book, rows), row_answers(store, rows))

    def test_many_small_blocks(self):
        for settings in [make([1], 1, 2, 1, 1, 1), make([1], 64, 2, 3, 8, 1), make([1, 2, 1], 2, 3, 2, 3, 2)]:
            far, store = Far(settings), Store(settings)
            for _ in range(100):
                store.steps(200)
                self.assertEqual(answers(far.behind(store.moment())), answers(store))


class FarTest(unittest.TestCase):

    def check_rows(self, settings, far, moment, many):
        """Check that rows that are done plainly from a moment on lead to what the far store tells."""
        store = plain_copy(settings, far.behind(moment))
        while store.done < min(moment + many, ROWS):
            store.step()
            book = far.behind(store.done)
            self.assertEqual(answers(book), answers(store), (vars(settings), moment))
            if store.done % 10 == 0:
                rows = newest_rows(settings, store.done)
                self.assertEqual(row_answers(book, rows), row_answers(store, rows))
                self.assertEqual(uses(book), uses(store))

    def test_rows_about_great_borders(self):
        chance = Random(141)
        for settings in far_settings(141, 30, 60):
            far, packing = Far(settings), Packing(settings)
            last, found = packing.page_of(ROWS - 1), 0
            while found < 3:
                step = settings.fanout ** chance.randint(5, 99)
                if step <= last:
                    row = packing.first_row(chance.randint(1, last // step) * step)
                    self.check_rows(settings, far, max(0, row - chance.randint(1, 20)), 40)
                    found += 1

    def test_a_border_as_long_as_it_is_live(self):
        for settings in far_settings(142, 8, 20, 12):
            far, packing = Far(settings), Packing(settings)
            step = 1
            while step * settings.fanout <= packing.page_of(ROWS - 1):
                step *= settings.fanout
            self.check_rows(settings, far, packing.first_row(step) - 5, settings.keep + 2 * settings.every + 10)

    def test_rows_anywhere(self):
        chance = Random(143)
        for settings in far_settings(143, 30, 60):
            far = Far(settings)
            for moment in [chance.randint(0, ROWS), chance.randint(0, 10 ** 9), ROWS - 30]:
                self.check_rows(settings, far, moment, 30)

    def test_each_page_has_just_one_role(self):
        chance = Random(144)
        for settings in far_settings(144, 20):
            far = Far(settings)
            for moment in [chance.randint(0, ROWS), ROWS, ROWS - 1]:
                book = far.behind(moment)
                pages = uses(book) + book.free_pages(book.file_size() - len(uses(book)))
                self.assertEqual(sorted(pages), list(range(book.file_size())))
                self.assertEqual(book.free_pages(MANY)[len(pages) - len(uses(book))], book.file_size())
                self.assertEqual(len({book.role(page) for page in pages}), len(pages))

    def test_the_first_and_the_last_moment(self):
        for settings in far_settings(145, 20):
            far = Far(settings)
            self.assertEqual(answers(far.behind(0)), answers(Store(settings)))
            book = far.behind(ROWS)
            self.assertEqual(book.moment(), ROWS)
            self.assertEqual(book.heap_pages()[-1][0], Packing(settings).page_of(ROWS - 1))

    def test_another_far_in_another_order_and_again(self):
        chance = Random(146)
        for settings in far_settings(146, 15):
            far, other = Far(settings), Far(settings)
            moments = [0, 5, 300, 10 ** 6, ROWS] + [chance.randint(0, ROWS) for _ in range(5)]
            told = {moment: answers(far.behind(moment)) for moment in moments}
            other.moves(blocks(settings)[1], last_block(settings))
            for moment in reversed(moments):
                self.assertEqual(answers(other.behind(moment)), told[moment])
                self.assertEqual(answers(far.behind(moment)), told[moment])

    def test_books_do_not_hang_on_one_another(self):
        far = Far(EXAMPLE)
        book = far.behind(1000)
        before = answers(book)
        for moment in [1001, 1003, 999, 10 ** 9]:
            far.behind(moment)
        self.assertEqual(answers(book), before)


class BlocksTest(unittest.TestCase):

    def test_block_of(self):
        chance = Random(151)
        for settings in far_settings(151, 30):
            far, packing, width = Far(settings), Packing(settings), blocks(settings)[0]
            for moment in list(range(0, 1500, 7)) + [chance.randint(0, ROWS - 1) for _ in range(20)] + [ROWS - 1]:
                self.assertEqual(far.block_of(moment), packing.page_of(moment) // width)
            for block in far_blocks(settings, chance, 12):
                begin = begin_of(settings, block)
                self.assertEqual([far.block_of(begin - 1), far.block_of(begin)], [block - 1, block])
            page = packing.page_of(ROWS - 1)
            after = packing.first_row(page) + packing.rows_on(page)
            self.assertEqual(far.block_of(ROWS), (page + (after == ROWS)) // width)

    def test_moves_and_counts_as_plain_rows_have_them(self):
        chance = Random(152)
        for settings in far_settings(152, 14, 25, 12):
            far = Far(settings)
            for block in far_blocks(settings, chance, 7):
                last = block + chance.randint(1, 3)
                if begin_of(settings, last) - begin_of(settings, block) < 500:
                    turn, tally = run_plainly(settings, far, block, last)
                    self.assertTrue(far.moves(block, last) == turn, (vars(settings), block, last))
                    self.assertTrue(far.counts(block, last) == tally, (vars(settings), block, last))

    def test_pages_behind_are_those_from_which_moves_says_they_came(self):
        chance = Random(153)
        for settings in far_settings(153, 20):
            far = Far(settings)
            found = sorted(set(far_blocks(settings, chance, 8)))
            for first, last in zip(found, found[1:] + [last_block(settings)]):
                turn = far.moves(first, last)
                ahead, behind = far.behind(begin_of(settings, first)), far.behind(begin_of(settings, last))
                self.assertEqual([turn.ahead(), turn.behind()], [len(uses(ahead)), len(uses(behind))])
                for place in [("use", number) for number in range(turn.behind())] + [
                    ("list", number) for number in range(0, 400, 9)
                ]:
                    self.assertEqual(page_at(behind, place), page_at(ahead, turn.origin(place)))

    def test_blocks_joined(self):
        chance = Random(154)
        for settings in far_settings(154, 20):
            far = Far(settings)
            found = sorted(set(far_blocks(settings, chance, 9) + [last_block(settings)]))
            for one, two, three in zip(found, found[1:], found[2:]):
                first, later = far.moves(one, two), far.moves(two, three)
                self.assertTrue(far.moves(one, three) == first.then(later))
                told = both(first, far.counts(one, two), far.counts(two, three))
                self.assertTrue(far.counts(one, three) == told)

    def test_blocks_with_as_many_zeros_and_one_phase_do_the_same(self):
        chance = Random(155)
        for settings in far_settings(155, 20):
            far, found = Far(settings), {}
            width, _ = blocks(settings)
            for block in far_blocks(settings, chance, 40):
                key = (zeros_of(settings.fanout, block), block * width % phases(settings)[0])
                turn, tally = far.moves(block, block + 1), far.counts(block, block + 1)
                other = found.setdefault(key, (turn, tally))
                self.assertTrue(other[0] == turn and other[1] == tally)

    def test_blocks_behind_such_with_as_many_zeros_do_the_same(self):
        for settings in far_settings(156, 15, 40, 15):
            far, fanout, many = Far(settings), settings.fanout, phases(settings)[0]
            for zeros in [1, 2, 5, 20]:
                step = fanout ** zeros
                one, other = step * many, step * (fanout + 1) * many * 10 ** 3
                if one >= blocks(settings)[1] and other + step <= last_block(settings):
                    self.assertTrue(far.moves(one + 1, one + step) == far.moves(other + 1, other + step))
                    self.assertTrue(far.counts(one + 1, one + step) == far.counts(other + 1, other + step))

    def test_how_many_more_pages_are_touched(self):
        # A block that ends with k zeros takes two pages more for each of them, and they come back.
        for settings in [make([1], 2, 2, 2, 4, 3), make([1], 1, 3, 2, 5, 6)]:
            far, touched = Far(settings), []
            for zeros in range(4, 40):
                # The phase is the same for all of them.
                block = settings.fanout ** zeros * 5
                tally = far.counts(block, block + 1)
                touched.append(len([place for place in tally.counts() if place[0] == "list"]))
                turn = far.moves(block, block + 1)
                self.assertEqual(turn.fresh() - len(turn.front()), turn.behind() - turn.ahead())
            self.assertEqual({later - one for one, later in zip(touched, touched[1:])}, {2})

    def test_what_counts_add_up_to(self):
        chance = Random(157)
        for settings in far_settings(157, 15):
            far = Far(settings)
            width, packing = blocks(settings)[0], Packing(settings)
            for first in far_blocks(settings, chance, 6):
                last = last_block(settings) - chance.randint(0, 3)
                told = far.counts(first, last).counts()
                sums = {kind: sum(count.get(kind, 0) for count in told.values()) for kind in ("heap", "record")}
                self.assertEqual(sums["heap"], (last - first) * width)
                rows = packing.first_row(last * width) - packing.first_row(first * width)
                self.assertEqual(sums["record"], rows)


    def test_phases_that_only_blocks_with_zeros_have(self):
        for settings in [
            make([1], 17, 2, 3, 16, 1), make([1], 9, 2, 8, 8, 3), make([1], 17, 4, 1, 16, 1), make([1], 17, 8, 5, 16, 9),
        ]:
            self.assertGreater(phases(settings)[0], blocks(settings)[0])
            far, store = Far(settings), Store(settings)
            while store.moment() < 4000:
                store.steps(37)
                self.assertEqual(answers(far.behind(store.moment())), answers(store))
            for block in [2 ** 40, 3 * 2 ** 30 - 1, 5 * 8 ** 20 + 1]:
                turn, tally = run_plainly(settings, far, block, block + 3)
                self.assertTrue(far.moves(block, block + 3) == turn)
                self.assertTrue(far.counts(block, block + 3) == tally)


class SpeedTest(unittest.TestCase):

    def test_some_hundred_far_questions_take_seconds(self):
        chance = Random(161)
        for settings in [make([1], 2, 2, 2, 4, 3), make([1], 1, 2, 3, 10, 60), make([1], 64, 8, 16, 40, 100)]:
            far, before = Far(settings), time.process_time()
            for _ in range(300):
                far.behind(ROWS - chance.randint(0, 10 ** 29))
            self.assertLess(time.process_time() - before, 60)

    def test_some_hundred_first_far_questions(self):
        many = [
            make([1], 12, 2, 3, 36, 30), make([1, 1, 1, 4], 4, 2, 9, 12, 10), make([1], 2, 2, 2, 4, 3),
            make([1, 2, 1], 2, 3, 13, 12, 25), make([1], 1, 2, 3, 10, 60),
        ]
        before = time.process_time()
        for at in range(100):
            settings = many[at % len(many)]
            self.assertGreater(len(Far(settings).counts(100, 10 ** 18).counts()), 0)
            self.assertGreater(Far(settings).moves(100, 10 ** 18 + at).behind(), 0)
            self.assertGreater(Far(settings).behind(10 ** 29 + at).file_size(), 0)
        # They take some seconds; the limit is for slow machines.
        self.assertLess(time.process_time() - before, 20)


class StartTest(unittest.TestCase):

    def test_starts_with_many_zeros_as_plain_rows_have_them(self):
        chance = Random(162)
        for settings in far_settings(162, 30):
            course, packing = Course(settings, True), Packing(settings)
            for block in far_blocks(settings, chance, 12):
                state = course.state_at(block)
                end = packing.first_row(block * blocks(settings)[0]) + settings.keep + settings.every - 1
                span = run_spans(state, [end - end % settings.every], True)[0]
                told = course.start_span(block)
                self.assertEqual([told.order, told.sums], [span.order, span.sums], (vars(settings), block))


class WrongArgumentsTest(unittest.TestCase):

    def test_what_is_no_settings(self):
        check_refusals(self, Far, {"settings": EXAMPLE}, [WRONG_SETTINGS])

    def test_limits(self):
        for settings, limit in [(make([1], 1, 4, 3, 17, 5), 16), (make([1], 1, 8, 3, 16, 47), 128)]:
            with self.assertRaises(LimitExceeded) as caught:
                Far(settings)
            self.assertEqual(caught.exception.limit, limit)

    def test_what_is_no_moment(self):
        far = Far(EXAMPLE)
        for call in [far.behind, far.block_of]:
            for moment in [0, 5, 10 ** 20, ROWS]:
                check_refusals(self, call, {"moment": moment}, [("moment", numbers_but(0, ROWS), InvalidNumber, None)])

    def test_what_are_no_blocks(self):
        for settings in [EXAMPLE, make([1, 2, 1], 2, 2, 3, 3, 1), make([1], 1, 2, 1, 1, 1), make([1], 64, 8, 16, 40, 100)]:
            far, first, last = Far(settings), blocks(settings)[1], far_last(settings)
            for good in [(first, first + 1), (first, last), (10 ** 12, 10 ** 12 + 3), (last - 1, last)]:
                wrong = [
                    ("first", numbers_but(first, last), InvalidNumber, None),
                    ("last", numbers_but(good[0] + 1, last), InvalidNumber, None),
                ]
                for call in [far.moves, far.counts]:
                    check_refusals(self, call, {"first": good[0], "last": good[1]}, wrong)
            for call in [far.moves, far.counts]:
                for told in [(last, last + 1), (last, last), (first, first), (first + 3, first + 2)]:
                    with self.assertRaises(InvalidNumber) as caught:
                        call(*told)
                    self.assertEqual(caught.exception.number, told[1])

    def test_the_last_block_may_begin_behind_10_to_the_30_rows(self):
        # Blocks of 4 heap pages with one row each: 10 ** 30 rows are a number of whole blocks.
        settings = make([1], 1, 2, 1, 1, 1)
        self.assertEqual(blocks(settings), (4, 1))
        far = Far(settings)
        self.assertEqual(far.block_of(ROWS), ROWS // 4)
        self.assertEqual(far.moves(ROWS // 4 - 1, ROWS // 4).behind(), len(uses(far.behind(ROWS))))
        with self.assertRaises(InvalidNumber):
            far.moves(ROWS // 4, ROWS // 4 + 1)
        with self.assertRaises(InvalidNumber):
            far.moves(ROWS // 4 - 1, ROWS // 4 + 1)

    def test_an_error_changes_nothing(self):
        far = Far(EXAMPLE)
        before = answers(far.behind(10 ** 20))
        for call in [far.behind, far.block_of]:
            for told in [None, -1, True, [], 10 ** 60]:
                with self.assertRaises(InvalidNumber):
                    call(told)
        self.assertEqual(answers(far.behind(10 ** 20)), before)


class InterfaceTest(unittest.TestCase):

    def test_methods_stand_in_the_class_itself(self):
        self.assertEqual(Far.__module__, "keeprows.far")
        for name in ["__init__", "behind", "block_of", "moves", "counts"]:
            self.assertIn(name, vars(Far))

    def test_the_settings_are_its_attribute(self):
        far = Far(settings=EXAMPLE)
        self.assertIs(far.settings, EXAMPLE)

    def test_arguments_by_name(self):
        far = Far(EXAMPLE)
        self.assertEqual(answers(far.behind(moment=99)), answers(far.behind(99)))
        self.assertEqual(far.block_of(moment=99), far.block_of(99))
        self.assertTrue(far.moves(first=3, last=10 ** 9) == far.moves(3, 10 ** 9))
        self.assertTrue(far.counts(last=10 ** 9, first=3) == far.counts(3, 10 ** 9))

    def test_kinds_of_what_is_returned(self):
        far = Far(EXAMPLE)
        kinds = [type(told) for told in [far.behind(9), far.block_of(9), far.moves(3, 5), far.counts(3, 5)]]
        self.assertEqual(kinds, [Book, int, Turn, Tally])


if __name__ == "__main__":
    unittest.main()
