"""Where rows stand: the heap page of each row, near and far alike."""

from keeprows.checks import ROWS, check_moment, check_row, is_within
from keeprows.errors import InvalidPage
from keeprows.settings import check_settings


def rows_from(settings, row):
    """Return how many rows a heap page gets that begins with this row."""
    lengths = settings.lengths
    # Whole rounds of lengths fit in wherever they begin; only what is left needs a look.
    rows = settings.size // sum(lengths) * len(lengths)
    left = settings.size % sum(lengths)
    while lengths[(row + rows) % len(lengths)] <= left:
        left -= lengths[(row + rows) % len(lengths)]
        rows += 1
    return rows


def units_ahead(settings, row):
    """Return how many units all rows ahead of this row have together."""
    lengths = settings.lengths
    return row // len(lengths) * sum(lengths) + sum(lengths[:row % len(lengths)])


class Packing:
    """Where the rows of a store stand, whether they are still kept or not."""

    def __init__(self, settings):
        check_settings(settings)
        many = len(settings.lengths)
        starts = [0]
        page_of_place = {}
        # The place of a heap page's first row in lengths tells all that follows, and there are
        # at most six places: so all comes again as soon as a heap page begins with one of them.
        while starts[-1] % many not in page_of_place:
            page_of_place[starts[-1] % many] = len(starts) - 1
            starts.append(starts[-1] + rows_from(settings, starts[-1]))
        self._settings = settings
        self._starts = starts
        self._first = page_of_place[starts[-1] % many]
        self._pages = len(starts) - 1 - self._first
        self._rows = starts[-1] - starts[self._first]
        self._last = self.page_with(ROWS - 1)

    def page_of(self, row):
        """Return the number of the heap page of a row."""
        check_row(row)
        return self.page_with(row)

    def first_row(self, page):
        """Return the first row of a heap page."""
        self._check_page(page)
        return self.start_of(page)

    def rows_on(self, page):
        """Return how many rows a heap page gets."""
        self._check_page(page)
        return self.start_of(page + 1) - self.start_of(page)

    def units_on(self, page):
        """Return how many units the rows of a heap page have together."""
        self._check_page(page)
        return self._units_between(self.start_of(page), self.start_of(page + 1))

    def units_left(self, row):
        """Return how many units are left on its heap page when a row has been put there."""
        check_row(row)
        start = self.start_of(self.page_with(row))
        return self._settings.size - self._units_between(start, row + 1)

    def begun(self, moment):
        """Return how many heap pages have begun behind so many rows."""
        check_moment(moment)
        if moment == 0:
            return 0
        return self.page_with(moment - 1) + 1

    def cycle(self):
        """Return (first, pages, rows): from heap page first on, all comes again."""
        return (self._first, self._pages, self._rows)

    def _check_page(self, page):
        if not is_within(page, 0, self._last):
            raise InvalidPage(page)

    def start_of(self, page):
        """Return the first row of any heap page, also beyond the last row."""
        turns = max(0, (page - self._first) // self._pages)
        return self._starts[page - turns * self._pages] + turns * self._rows

    def page_with(self, row):
        """Return the heap page of any row, also beyond the last one."""
        turns = max(0, (row - self._starts[self._first]) // self._rows)
        near = row - turns * self._rows
        page = 0
        while self._starts[page + 1] <= near:
            page += 1
        return page + turns * self._pages

    def _units_between(self, row, after):
        """Return how many units the rows from row to after - 1 have together."""
        return units_ahead(self._settings, after) - units_ahead(self._settings, row)
