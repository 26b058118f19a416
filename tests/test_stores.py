"""The store, row by row, and its book: [28] to [35], [43], and what [2] and [3] say of them."""

import unittest

from keeprows import blocks, stores
from keeprows.blocks import uses
from keeprows.errors import InvalidNumber, InvalidPage, InvalidRow
from keeprows.far import Far
from keeprows.settings import Settings
from keeprows.stores import Book, Store
from keeprows.trees import begun_by, ended_by, tree_nodes

from model import PlainStore, answers, many_settings, newest_rows, row_answers
from plain import ROWS, make, strange_objects
from refusals import WRONG_SETTINGS, check_refusals, numbers_but

QUESTIONS = [
    "moment", "heap_pages", "node_pages", "root", "log_pages", "waiting_pages", "changed_pages", "free_pages",
    "file_size", "role", "page_of", "path",
]
EXAMPLE = make([1], 2, 2, 2, 4, 3)


class EventsTest(unittest.TestCase):

    def test_against_a_plain_store(self):
        for settings in many_settings(81, 60):
            store, plain = Store(settings), PlainStore(settings)
            for row in range(330):
                events = store.step()
                self.assertIs(type(events), list)
                self.assertEqual(events, plain.step(), (vars(settings), row))
                self.assertEqual(answers(store), answers(plain))
                if row % 20 == 0:
                    rows = newest_rows(settings, row + 1)
                    self.assertEqual(row_answers(store, rows), row_answers(plain, rows))

    def test_the_first_rows_told_by_hand(self):
        store = Store(EXAMPLE)
        self.assertEqual([store.step() for _ in range(5)], [
            [("take", 0, ("log", 0)), ("record", 0, 0), ("take", 1, ("heap", 0)), ("take", 2, ("node", 0, 0)),
             ("put", 1, 0)],
            [("record", 0, 1), ("put", 1, 1)],
            [("take", 3, ("log", 1)), ("record", 3, 2), ("take", 4, ("heap", 1)), ("put", 4, 2)],
            [("record", 3, 3), ("put", 4, 3), ("write", 1), ("write", 2), ("write", 4), ("free", 0), ("free", 3)],
            [("take", 3, ("log", 0)), ("record", 3, 4), ("take", 0, ("heap", 2)), ("take", 5, ("node", 0, 1)),
             ("take", 6, ("node", 1, 0)), ("put", 0, 4), ("give", 1, ("heap", 0))],
        ])

    def test_nodes_are_those_of_the_trees(self):
        for settings in many_settings(82, 30):
            store = Store(settings)
            for row in range(200):
                events = store.step()
                begun = [event[2] for event in events if event[0] == "take" and event[2][0] != "log"]
                ended = [event[2] for event in events if event[0] == "give"]
                for (page, nodes), found in [(begun_by(settings, row), begun), (ended_by(settings, row), ended)]:
                    told = [("heap", page)] * (page is not None) + [("node", *node) for node in nodes]
                    self.assertEqual(found, told)
                self.assertEqual([told[:2] for told in store.node_pages()], tree_nodes(settings, row + 1))

    def test_no_written_page_is_taken_ahead_of_the_next_checkpoint(self):
        for settings in many_settings(83, 30):
            store, written = Store(settings), {}
            for row in range(300):
                events = store.step()
                for event in events:
                    if event[0] == "take":
                        self.assertNotIn(event[1], written)
                if (row + 1) % settings.every == 0:
                    pages = [told[-1] for told in store.heap_pages() + store.node_pages()]
                    written = dict.fromkeys(pages, row)
                    self.assertEqual([store.changed_pages(), store.log_pages(), store.waiting_pages()], [[], [], []])

    def test_steps_in_parts(self):
        for settings in many_settings(84, 30):
            one, other, third = Store(settings), Store(settings), Store(settings)
            for many in [0, 1, 2, 7, 40, 41, 100]:
                events = sum([len(one.step()) for _ in range(many)])
                self.assertEqual(other.steps(many), events)
                self.assertTrue(one == other)
                self.assertEqual(answers(one), answers(other))
            third.steps(191)
            self.assertTrue(one == third)
            self.assertEqual(answers(one), answers(third))
        self.assertEqual(Store(EXAMPLE).steps(0), 0)
        store = Store(EXAMPLE)
        self.assertGreater(store.steps(5000), 5000)
        self.assertEqual(store.moment(), 5000)


class EqualityTest(unittest.TestCase):

    def test_equal_ones(self):
        one, other = Store(EXAMPLE), Store(make([1], 2, 2, 2, 4, 3))
        self.assertTrue(one == other)
        one.steps(9)
        self.assertTrue(one != other)
        other.steps(9)
        self.assertTrue(one == other)
        self.assertFalse(one != other)

    def test_unlike_ones(self):
        one = Store(EXAMPLE)
        others = [told for told in strange_objects() + [0, EXAMPLE, Far(EXAMPLE), Far(EXAMPLE).behind(0)]]
        others += [Store(make([1], 2, 2, 2, 4, 2)), Store(make([1, 1], 2, 2, 2, 4, 3))]
        later = Store(EXAMPLE)
        later.step()
        for other in others + [later]:
            self.assertFalse(one == other)
            self.assertFalse(other == one)
            self.assertTrue(one != other)


class QuestionsTest(unittest.TestCase):

    def test_a_store_behind_0_rows(self):
        for settings in many_settings(91, 20):
            for store in [Store(settings), PlainStore(settings)]:
                self.assertEqual(answers(store), [0, [], [], None, [], [], [], 0, list(range(40))])
        store = Store(EXAMPLE)
        for call, told, error in [(store.role, 0, InvalidPage), (store.page_of, 0, InvalidRow), (store.path, 0, InvalidRow)]:
            with self.assertRaises(error):
                call(told)

    def test_each_page_has_just_one_role(self):
        for settings in many_settings(92, 40):
            store, most = Store(settings), 0
            for _ in range(300):
                used = taken = len(uses(store))
                for event in store.step():
                    taken += event[0] == "take"
                    taken -= event[0] == "free"
                    used = max(used, taken)
                # The file grows only when more pages are in use or waiting than ever before.
                most = max(most, used)
                self.assertEqual(store.file_size(), most)
                pages = uses(store)
                free = store.free_pages(store.file_size() - len(pages))
                self.assertEqual(sorted(pages + free), list(range(store.file_size())))
            for page in range(store.file_size()):
                self.check_role(store, page, store.role(page))

    def check_role(self, store, page, role):
        if role[0] == "heap":
            self.assertIn((role[1], page), store.heap_pages())
        elif role[0] == "node":
            self.assertIn((role[1], role[2], page), store.node_pages())
        else:
            lists = {"log": store.log_pages(), "waiting": store.waiting_pages(), "free": store.free_pages(1000)}
            self.assertEqual(lists[role[0]][role[1]], page)

    def test_free_pages_with_never_taken_ones(self):
        for settings in many_settings(93, 20):
            store = Store(settings)
            store.steps(77)
            size, used = store.file_size(), len(uses(store))
            free = store.free_pages(1000)
            self.assertEqual(free[size - used:], list(range(size, 1000 + used)))
            for count in [0, 1, 2, 50, 999, 1000]:
                self.assertEqual(store.free_pages(count), free[:count])

    def test_free_pages_are_what_is_taken_next(self):
        for settings in many_settings(94, 30):
            store = Store(settings)
            for _ in range(150):
                free = store.free_pages(300)
                taken = [event[1] for event in store.step() if event[0] == "take"]
                self.assertEqual(taken, free[:len(taken)])

    def test_the_kept_rows_and_all_others(self):
        for settings in many_settings(95, 20):
            store = Store(settings)
            for moment in list(range(1, 30)) + [50, 100, 150]:
                store.steps(moment - store.moment())
                heap, rows = dict(store.heap_pages()), newest_rows(settings, moment)
                for row in rows:
                    page, path = store.page_of(row), store.path(row)
                    self.assertIn(page, heap.values())
                    self.assertEqual([path[-1], path[0]], [page, store.root()[2]])
                    self.assertEqual(len(path), store.root()[0] + 2)
                for row in [rows[0] - 1, rows[0] - 2, -1, -2, moment, moment + 1, ROWS, ROWS - 1]:
                    for call in [store.page_of, store.path]:
                        with self.assertRaises(InvalidRow) as caught:
                            call(row)
                        self.assertIs(caught.exception.row, row)

    def test_questions_change_nothing(self):
        for settings in many_settings(96, 15):
            asked, plain = Store(settings), Store(settings)
            for moment in range(1, 120):
                asked.step()
                rows = newest_rows(settings, moment)
                first = (answers(asked), row_answers(asked, rows), asked.free_pages(1000), uses(asked))
                for told in first[0] + [uses(asked), asked.path(moment - 1)]:
                    if isinstance(told, list):
                        told.append("more")
                plain.step()
                again = [told for told in answers(asked)]
                self.assertEqual(again, answers(plain))
                self.assertEqual(row_answers(asked, rows), first[1])

    def test_uses(self):
        for settings in many_settings(97, 30):
            store, plain = Store(settings), PlainStore(settings)
            for _ in range(150):
                store.step()
                plain.step()
                pages = [page for _, page in plain.heap_pages()] + [page for _, _, page in plain.node_pages()]
                self.assertEqual(uses(store), pages + plain.log + plain.waiting)
                self.assertIs(type(uses(store)), list)


class BookTest(unittest.TestCase):

    def test_a_book_answers_as_the_store(self):
        for settings in [make([1], 2, 2, 2, 4, 3), make([2, 1, 3], 5, 3, 3, 4, 9), make([1], 64, 8, 16, 40, 100)]:
            far, store = Far(settings), Store(settings)
            for moment in range(200):
                book, rows = far.behind(moment), newest_rows(settings, moment)
                self.assertIs(type(book), Book)
                self.assertEqual(answers(book), answers(store))
                self.assertEqual(row_answers(book, rows), row_answers(store, rows))
                self.assertEqual(uses(book), uses(store))
                store.step()

    def test_a_book_is_equal_to_itself_only(self):
        book = Far(EXAMPLE).behind(5)
        self.assertTrue(book == book)
        self.assertFalse(book == Far(EXAMPLE).behind(5))

    def test_changing_what_a_book_returns_changes_nothing(self):
        book = Far(EXAMPLE).behind(5)
        before = answers(book)
        for question in QUESTIONS:
            if question not in ("moment", "root", "free_pages", "file_size", "role", "page_of", "path"):
                getattr(book, question)().append("more")
        self.assertEqual(answers(book), before)


class WrongArgumentsTest(unittest.TestCase):

    def test_store_of_what_is_no_settings(self):
        check_refusals(self, Store, {"settings": EXAMPLE}, [WRONG_SETTINGS])

    def test_steps(self):
        store = Store(EXAMPLE)
        wrong = [("many", numbers_but(0, 5000), InvalidNumber, None)]
        check_refusals(self, store.steps, {"many": 0}, wrong)
        self.assertTrue(store == Store(EXAMPLE))
        self.assertEqual(answers(store), answers(Store(EXAMPLE)))

    def asked(self):
        store = Store(EXAMPLE)
        store.steps(6)
        return [store, Far(EXAMPLE).behind(6)]

    def test_free_pages(self):
        for store in self.asked():
            wrong = [("count", numbers_but(0, 1000), InvalidNumber, None)]
            check_refusals(self, store.free_pages, {"count": 1000}, wrong)

    def test_role(self):
        for store in self.asked():
            wrong = [("page", numbers_but(0, store.file_size() - 1), InvalidPage, None)]
            check_refusals(self, store.role, {"page": 0}, wrong)
            check_refusals(self, store.role, {"page": store.file_size() - 1}, wrong)

    def test_page_of_and_path(self):
        for store in self.asked():
            for call in [store.page_of, store.path]:
                check_refusals(self, call, {"row": 3}, [("row", numbers_but(3, 5), InvalidRow, None)])

    def test_an_error_changes_nothing(self):
        for store in self.asked():
            before = answers(store)
            for call in [store.free_pages, store.role, store.page_of, store.path]:
                for told in [None, -1, True, [], 10 ** 60]:
                    with self.assertRaises((InvalidNumber, InvalidPage, InvalidRow)):
                        call(told)
            self.assertEqual(answers(store), before)


class InterfaceTest(unittest.TestCase):

    def test_methods_stand_in_the_classes_themselves(self):
        self.assertEqual([Store.__module__, Book.__module__], ["keeprows.stores"] * 2)
        self.assertIs(stores.Book, Book)
        for name in QUESTIONS:
            self.assertIn(name, vars(Store))
            self.assertIn(name, vars(Book))
        for name in ["__init__", "__eq__", "step", "steps"]:
            self.assertIn(name, vars(Store))
        for name in ["step", "steps", "__eq__"]:
            self.assertNotIn(name, vars(Book))
        self.assertEqual((uses.__module__, blocks.uses), ("keeprows.blocks", uses))

    def test_arguments_by_name(self):
        store = Store(settings=EXAMPLE)
        self.assertEqual(store.steps(many=6), Store(EXAMPLE).steps(6))
        self.assertEqual(store.free_pages(count=3), store.free_pages(3))
        self.assertEqual([store.role(page=0), store.page_of(row=4)], [store.role(0), store.page_of(4)])
        self.assertEqual([store.path(row=4), uses(book=store)], [store.path(4), uses(store)])

    def test_kinds_of_what_is_returned(self):
        store = Store(EXAMPLE)
        self.assertIs(type(store.steps(9)), int)
        for book in [store, Far(EXAMPLE).behind(9)]:
            kinds = [type(told) for told in answers(book)]
            self.assertEqual(kinds, [int, list, list, tuple, list, list, list, int, list])
            self.assertEqual([type(book.role(0)), type(book.page_of(8)), type(book.path(8))], [tuple, int, list])
            for told in book.heap_pages() + book.node_pages():
                self.assertIs(type(told), tuple)

    def test_the_settings_may_go(self):
        lengths = [2, 1, 3]
        settings = Settings(lengths, 5, fanout=3, records=3, every=4, keep=9)
        store, other = Store(settings), Store(make([2, 1, 3], 5, 3, 3, 4, 9))
        lengths[:] = [5]
        del settings
        self.assertEqual(store.steps(50), other.steps(50))
        self.assertTrue(store == other)


if __name__ == "__main__":
    unittest.main()
