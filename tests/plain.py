"""What the tests share: settings to try, wrong objects, and a count of the rows one by one."""

from itertools import product
from random import Random

from keeprows import errors
from keeprows.copies import Change, Copy, change, copy_at
from keeprows.crashes import Disk, disk
from keeprows.far import Far
from keeprows.packing import Packing
from keeprows.scans import Scans
from keeprows.settings import Settings
from keeprows.stores import Store
from keeprows.turns import Tally, Turn

ROWS = 10 ** 30
# Behind so many heap pages every packing has come again more than twice.
MANY_PAGES = 40


def make(lengths, size, fanout=2, records=3, every=4, keep=9):
    return Settings(lengths, size, fanout=fanout, records=records, every=every, keep=keep)


def strange_objects():
    """Objects of all kinds that are no integer at all."""
    settings = make([2, 1, 3], 5)
    return [
        None, True, False, NotImplemented, ..., "", "5", "lengths", b"", b"5", bytearray(b"5"), memoryview(b"5"),
        5.0, 0.0, 1e30, float("nan"), float("inf"), 5j, [], [5], [[5]], (), (5,), {}, {5: 5}, {"part": 5}, set(), {5},
        frozenset({5}), range(0), range(5), slice(0, 5), object(), object, int, bool, list, len, "5".join, lambda: 5,
        iter([5]), (number for number in [5]), zip([5]), enumerate([5]), map(int, "5"), reversed([5]), {5: 5}.items(),
        ValueError("5"), errors.StoreError("5"), errors.InvalidRow(5), errors.LimitExceeded, Settings, Packing,
        settings, Packing(settings), settings.length_of, errors, Turn([], [], 0), Tally({}), Store(settings), Store,
        Far(settings), Far(settings).behind(5), Far, disk(Far(settings), 5), copy_at(Far(settings), 5), Disk, Copy,
        change(Far(settings), 5, 6), Change, Scans(Far(settings)), Scans,
    ]


def all_lengths(most_many, most_length):
    """All lists of 1 to so many lengths from 1 to the greatest one."""
    lists = []
    for many in range(1, most_many + 1):
        lists += [list(lengths) for lengths in product(range(1, most_length + 1), repeat=many)]
    return lists


def small_packings():
    """Pairs (lengths, size): all the small ones."""
    return [
        (lengths, size) for lengths in all_lengths(3, 4) for size in range(max(lengths), 8)
    ] + [
        (lengths, size) for lengths in all_lengths(5, 2) for size in range(max(lengths), 6)
    ]


def other_packings():
    """Pairs (lengths, size): such at the bounds, and some of all sizes."""
    pairs = [
        ([1], 1), ([1], 7), ([1], 63), ([1], 64), ([64], 64), ([63], 64), ([32], 64), ([33], 64), ([7], 64),
        ([1] * 6, 64), ([64] * 6, 64), ([1, 64], 64), ([64, 1], 64), ([1, 1, 1, 1, 1, 64], 64),
        ([64, 1, 1, 1, 1, 1], 64), ([63, 2], 64), ([5, 4, 3, 2, 1, 6], 6), ([2, 1, 3], 5), ([2, 2, 2, 2, 2, 3], 4),
        ([1, 2, 3, 4, 5, 6], 64), ([3, 1, 1, 2, 1, 1], 3), ([1, 1, 1, 1, 1, 2], 2), ([31, 2, 31, 1, 32, 64], 64),
        ([1, 1, 1, 1, 8], 37), ([3, 3, 2, 2, 2, 48], 63), ([2, 9, 7, 2, 8, 20], 64), ([7, 2, 4, 38, 3], 61),
    ]
    chance = Random(5)
    for _ in range(300):
        greatest = chance.randint(1, 64)
        lengths = [chance.randint(1, greatest) for _ in range(chance.randint(1, 6))]
        pairs.append((lengths, chance.randint(max(lengths), 64)))
    return pairs


def packings():
    return small_packings() + other_packings()


def count_rows(lengths, size, row, page, many):
    """Put rows one by one, from the first row of a heap page on: a list of (row, its heap page, units left)."""
    placed = []
    left = size
    for number in range(row, row + many):
        length = lengths[number % len(lengths)]
        if left < length:
            page, left = page + 1, size
        left -= length
        placed.append((number, page, left))
    return placed


def count_page(lengths, size, row):
    """Fill the heap page that begins with a row, row by row: (row, how many rows, how many units)."""
    rows = units = 0
    while units + lengths[(row + rows) % len(lengths)] <= size:
        units += lengths[(row + rows) % len(lengths)]
        rows += 1
    return row, rows, units


def count_pages(lengths, size, many):
    """The first heap pages, each as count_page tells it."""
    pages = [count_page(lengths, size, 0)]
    while len(pages) < many:
        row, rows, _ = pages[-1]
        pages.append(count_page(lengths, size, row + rows))
    return pages


def comes_again(lengths, pages, first, many):
    """Whether the heap pages come again from number first on, so many heap pages later."""
    rows = pages[first + many][0] - pages[first][0]
    return rows % len(lengths) == 0 and all(
        pages[page + many][0] - pages[page][0] == rows and pages[page + many][1] == pages[page][1]
        for page in range(first, len(pages) - many)
    )


def search_cycle(lengths, size):
    """Search for what cycle() must return: the least first heap page, then the least number of pages."""
    pages = count_pages(lengths, size, MANY_PAGES)
    for first in range(len(pages) // 2):
        for many in range(1, len(pages) // 2):
            if comes_again(lengths, pages, first, many):
                return first, many, pages[first + many][0] - pages[first][0]
    raise AssertionError("no cycle found")
