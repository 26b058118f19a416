"""The store, row by row, and the book: a store at one moment, which answers only."""

from keeprows.checks import check_number
from keeprows.questions import (
    free_list, heap_list, node_list, page_of_row, path_of_row, role_of, root_of,
)
from keeprows.settings import check_settings
from keeprows.states import State, do_row

MOST_STEPS = 5000


class Store:
    """A store that takes rows one after another."""

    def __init__(self, settings):
        check_settings(settings)
        self._state = State(settings)

    def __eq__(self, other):
        return (
            isinstance(other, Store)
            and self._state.settings == other._state.settings
            and self._state.done == other._state.done
        )

    def moment(self):
        """Return how many rows were done."""
        return self._state.done

    def step(self):
        """Do the next row, and return its events in order."""
        return do_row(self._state)

    def steps(self, many):
        """Do so many rows, and return how many events they had."""
        check_number(many, 0, MOST_STEPS)
        events = 0
        for _ in range(many):
            events += len(do_row(self._state))
        return events

    def heap_pages(self):
        """Return the list of (number, page) of the live heap pages."""
        return heap_list(self._state)

    def node_pages(self):
        """Return the list of (level, number, page) of the nodes."""
        return node_list(self._state)

    def root(self):
        """Return (level, number, page) of the root, None if there is none."""
        return root_of(self._state)

    def log_pages(self):
        """Return the log pages, the oldest first."""
        return list(self._state.log)

    def waiting_pages(self):
        """Return the pages that wait, in the order in which they were given back."""
        return list(self._state.waiting)

    def changed_pages(self):
        """Return the changed pages, ascending."""
        return sorted(self._state.changed)

    def free_pages(self, count):
        """Return the first so many pages that would be taken if nothing else happened."""
        return free_list(self._state, count)

    def file_size(self):
        """Return how many pages have been taken at least once."""
        return self._state.size

    def role(self, page):
        """Return the role of a page."""
        return role_of(self._state, page)

    def page_of(self, row):
        """Return the page that has a row."""
        return page_of_row(self._state, row)

    def path(self, row):
        """Return the pages from the root down to the one that has a row."""
        return path_of_row(self._state, row)


class Book:
    """A store behind some number of rows; it never changes."""

    def __init__(self, state):
        self._state = state

    def moment(self):
        """Return how many rows were done."""
        return self._state.done

    def heap_pages(self):
        """Return the list of (number, page) of the live heap pages."""
        return heap_list(self._state)

    def node_pages(self):
        """Return the list of (level, number, page) of the nodes."""
        return node_list(self._state)

    def root(self):
        """Return (level, number, page) of the root, None if there is none."""
        return root_of(self._state)

    def log_pages(self):
        """Return the log pages, the oldest first."""
        return list(self._state.log)

    def waiting_pages(self):
        """Return the pages that wait, in the order in which they were given back."""
        return list(self._state.waiting)

    def changed_pages(self):
        """Return the changed pages, ascending."""
        return sorted(self._state.changed)

    def free_pages(self, count):
        """Return the first so many pages that would be taken if nothing else happened."""
        return free_list(self._state, count)

    def file_size(self):
        """Return how many pages have been taken at least once."""
        return self._state.size

    def role(self, page):
        """Return the role of a page."""
        return role_of(self._state, page)

    def page_of(self, row):
        """Return the page that has a row."""
        return page_of_row(self._state, row)

    def path(self, row):
        """Return the pages from the root down to the one that has a row."""
        return path_of_row(self._state, row)
