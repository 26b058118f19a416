"""What the document promises over the whole program: the interface, calls by name, errors, and sums over all pages."""

import importlib
import inspect
import unittest
from pathlib import Path
from random import Random

from keeprows import errors
from keeprows.blocks import uses
from keeprows.comparing import first_parting, least_files, next_larger, turning_points
from keeprows.copies import both, change, changed_by, content, copy_at, lessened, root_page, rows_in
from keeprows.crashes import Disk, cut_off, disk, is_whole, needed_until, overwritten, recovered, redone
from keeprows.far import Far
from keeprows.logs import log_entries, log_pages, log_takes, record, record_page
from keeprows.packing import Packing
from keeprows.roles import (
    home, homes, last_taken, next_taken, page_with, role_at, role_span, taken, takes,
)
from keeprows.scans import Scans, jumps
from keeprows.sizes import grown, growths
from keeprows.stores import Book
from keeprows.wear import (
    last_writing, most_worn, next_writing, spent, wear_of, wear_row, worn_out, writing,
)

from model import far_settings
from plain import ROWS, make

EXAMPLE = make([1], 2, 2, 2, 4, 3)
ATTRIBUTES = {
    "InvalidSettings": "part", "InvalidText": "line", "InvalidRow": "row", "InvalidPage": "page",
    "InvalidNumber": "number", "InvalidArgument": "part", "LimitExceeded": "limit",
}
# The interface: of each module the functions with their parameters, and the classes with their methods.
FUNCTIONS = {
    "texts": ["settings_text(settings)", "read_settings(text)"],
    "trees": [
        "live_pages(settings, moment)", "next_border(settings, moment, level)", "covered(settings, node)",
        "node_over(settings, page, level)", "tree_root(settings, moment)", "tree_nodes(settings, moment)",
        "tree_height(settings, moment)", "children(settings, moment, node)", "parent(settings, moment, node)",
        "path_to(settings, moment, row)", "begun_by(settings, row)", "ended_by(settings, row)",
        "node_times(settings, node)",
    ],
    "turns": ["still(many)", "way(turns, place)", "both(turn, first, second)"],
    "logs": [
        "checkpoints(settings, moment)", "checkpoint_moment(settings, k)", "open_rows(settings, moment)",
        "record_place(settings, row)", "log_total(settings, moment)", "log_takes(settings, moment)",
        "take_row(settings, k)", "log_pages(far, moment)", "record_page(far, moment, row)", "record(far, row)",
        "log_entries(far, moment)",
    ],
    "phases": ["phases(settings)", "window(settings)", "blocks(settings)"],
    "blocks": ["uses(book)"],
    "roles": [
        "role_at(far, page, moment)", "page_with(far, role, moment)", "takes(far, page, moment, *, kind=None)",
        "taken(far, page, number, *, kind=None)", "last_taken(far, page, moment)", "next_taken(far, page, moment)",
        "role_span(far, page, moment)", "home(far, number)", "homes(far, node)",
    ],
    "wear": [
        "wear_of(far, page, moment, *, kind=None)", "wear_row(far, moment)", "most_worn(far, moment)",
        "writing(far, page, number)", "last_writing(far, page, moment)", "next_writing(far, page, moment)",
        "spent(far, moment)", "worn_out(far, life)",
    ],
    "crashes": [
        "disk(far, moment)", "is_whole(given)", "recovered(given)", "redone(given)", "cut_off(given, count)",
        "overwritten(far, moment)", "needed_until(far, moment, page)",
    ],
    "copies": [
        "content(far, moment, page)", "copy_at(far, moment)", "root_page(copy)", "rows_in(copy)",
        "change(far, one, other)", "changed_by(copy, given)", "both(one, other)", "lessened(copy, given)",
    ],
    "scans": ["jumps(pages)"],
    "sizes": [
        "height_count(settings, least, first, last)", "height_sum(settings, first, last)",
        "next_height(settings, moment, least)", "greatest_height(settings, first, last)", "grown(far, size)",
        "growths(far, first, last)",
    ],
    "comparing": [
        "first_parting(one, other)", "next_larger(one, other, moment)", "least_files(fars, moment)",
        "turning_points(fars, first, last)",
    ],
}
CLASSES = {
    "settings": {"Settings(lengths, size, *, fanout, records, every, keep)": ["length_of(row)", "__eq__(other)"]},
    "packing": {"Packing(settings)": [
        "page_of(row)", "first_row(page)", "rows_on(page)", "units_on(page)", "units_left(row)", "begun(moment)",
        "cycle()",
    ]},
    "turns": {
        "Turn(used, front, fresh)": [
            "used()", "front()", "fresh()", "ahead()", "behind()", "origin(place)", "goal(place)", "then(later)",
            "__eq__(other)",
        ],
        "Tally(counts)": ["counts()", "count(place, kind)", "__eq__(other)"],
    },
    "stores": {"Store(settings)": [
        "moment()", "step()", "steps(many)", "__eq__(other)", "heap_pages()", "node_pages()", "root()", "log_pages()",
        "waiting_pages()", "changed_pages()", "free_pages(count)", "file_size()", "role(page)", "page_of(row)",
        "path(row)",
    ], "Book(state)": [
        "moment()", "heap_pages()", "node_pages()", "root()", "log_pages()", "waiting_pages()", "changed_pages()",
        "free_pages(count)", "file_size()", "role(page)", "page_of(row)", "path(row)",
    ]},
    "far": {"Far(settings)": ["behind(moment)", "block_of(moment)", "moves(first, last)", "counts(first, last)"]},
    "crashes": {"Disk(settings, picture, records)": ["__eq__(other)"]},
    "copies": {
        "Copy(settings, moment, contents)": ["__eq__(other)"],
        "Change(settings, start, goal, contents, gone)": ["__eq__(other)"],
    },
    "scans": {"Scans(far)": [
        "row_scan(moment)", "index_scan(moment, first, last)", "jump_sum(first, last)", "next_straight(first)",
    ]},
}


class InterfaceTest(unittest.TestCase):

    def check_call(self, told, call):
        """Check that a call has a name and parameters, as they are written."""
        name, parameters = told.split("(", 1)
        self.assertEqual(call.__name__, name)
        self.assertEqual(str(inspect.signature(call)), "(" + parameters)

    def test_functions(self):
        for module, functions in FUNCTIONS.items():
            for told in functions:
                call = vars(importlib.import_module("keeprows." + module))[told.split("(")[0]]
                self.check_call(told, call)
                self.assertEqual(call.__module__, "keeprows." + module)

    def test_classes(self):
        for module, classes in CLASSES.items():
            for told, methods in classes.items():
                kind = vars(importlib.import_module("keeprows." + module))[told.split("(")[0]]
                self.check_call(told, kind)
                self.assertEqual([kind.__module__, kind.__bases__], ["keeprows." + module, (object,)])
                for method in methods:
                    name, parameters = method[:-1].split("(")
                    written = "(" + ", ".join(["self"] + [parameters] * bool(parameters)) + ")"
                    self.assertEqual(str(inspect.signature(vars(kind)[name])), written)

    def test_modules(self):
        package = Path(errors.__file__).parent
        for module in set(FUNCTIONS) | set(CLASSES) | {"errors"}:
            self.assertTrue((package / (module + ".py")).is_file())

    def test_each_error_is_made_of_its_attribute(self):
        self.assertEqual(errors.StoreError.__bases__, (LookupError,))
        for name, attribute in ATTRIBUTES.items():
            kind = getattr(errors, name)
            self.assertEqual(kind.__bases__, (errors.StoreError,))
            for told in [5, "part", None, [1], {1: 2}]:
                for error in [kind(told), kind(**{attribute: told})]:
                    self.assertIs(getattr(error, attribute), told)
                    self.assertEqual([other for other in ATTRIBUTES if isinstance(error, getattr(errors, other))], [name])


class NamesTest(unittest.TestCase):

    def check_names(self, call, **arguments):
        """Check that a call with all arguments by name tells what it does by position."""
        positions = [told for name, told in arguments.items() if name != "kind"]
        more = {"kind": arguments["kind"]} if "kind" in arguments else {}
        backwards = dict(reversed(list(arguments.items())))
        one, other = call(*positions, **more), call(**backwards)
        self.assertTrue(one == other or isinstance(one, Book))
        if isinstance(one, Book):
            self.assertEqual(uses(one), uses(other))
        return one

    def test_functions_of_a_far(self):
        far, same = Far(EXAMPLE), self.check_names
        for call in [log_pages, log_entries, wear_row, most_worn, spent, disk, overwritten, copy_at]:
            same(call, far=far, moment=11)
        for call in [role_at, last_taken, next_taken, role_span, last_writing, next_writing]:
            same(call, far=far, page=4, moment=9)
        for kind in [None, "heap", "node", "log"]:
            same(takes, far=far, page=4, moment=40, kind=kind)
            same(taken, far=far, page=4, number=1, kind=kind)
        for kind in [None, "record", "write"]:
            same(wear_of, far=far, page=4, moment=40, kind=kind)
        same(page_with, far=far, role=("heap", 3), moment=9)
        same(record, far=far, row=7)
        same(record_page, far=far, moment=11, row=9)
        same(home, far=far, number=5)
        same(homes, far=far, node=(1, 0))
        same(writing, far=far, page=4, number=2)
        same(worn_out, far=far, life=4)
        same(needed_until, far=far, moment=6, page=4)
        same(content, far=far, moment=6, page=0)
        same(change, far=far, one=4, other=9)
        same(grown, far=far, size=9)
        same(growths, far=far, first=3, last=19)

    def test_other_functions(self):
        far, low, same = Far(EXAMPLE), Far(make([1], 2, 2, 2, 4, 1)), self.check_names
        given, copy, told = disk(far, 7), copy_at(far, 4), change(far, 4, 6)
        for call in [is_whole, recovered, redone]:
            same(call, given=given)
        same(cut_off, given=given, count=2)
        same(Disk, settings=EXAMPLE, picture=given.picture, records=given.records)
        for call in [root_page, rows_in]:
            same(call, copy=copy)
        for call in [changed_by, lessened]:
            same(call, copy=copy, given=told)
        same(both, one=told, other=change(far, 6, 9))
        same(first_parting, one=EXAMPLE, other=low.settings)
        same(next_larger, one=far, other=low, moment=3)
        same(least_files, fars=[far, low], moment=4)
        same(turning_points, fars=[far, low], first=0, last=9)
        same(jumps, pages=[3, 4, 9])
        found = Scans(far=far)
        same(found.row_scan, moment=9)
        same(found.index_scan, moment=9, first=6, last=8)
        same(found.jump_sum, first=2, last=9)
        same(found.next_straight, first=1)


class SumsTest(unittest.TestCase):

    def check_sums(self, far, moment):
        settings, size = far.settings, far.behind(moment).file_size()
        found = {
            kind: sum(takes(far, page, moment, kind=kind) for page in range(size)) for kind in ("heap", "node", "log")
        }
        self.assertEqual(found["heap"], Packing(settings).begun(moment))
        self.assertEqual(found["log"], log_takes(settings, moment))
        self.assertEqual(sum(takes(far, page, moment) for page in range(size)), sum(found.values()))
        records = [wear_of(far, page, moment, kind="record") for page in range(size)]
        writes = [wear_of(far, page, moment, kind="write") for page in range(size)]
        self.assertEqual(sum(records), moment)
        self.assertEqual(wear_row(far, moment), [one + other for one, other in zip(records, writes)])

    def test_over_all_pages(self):
        chance = Random(901)
        for settings in far_settings(902, 15):
            far = Far(settings)
            for moment in [0, 1, chance.randint(0, 300), chance.randint(0, ROWS), ROWS]:
                self.check_sums(far, moment)

    def test_counts_and_takes_tell_the_same(self):
        for settings in far_settings(903, 10):
            far = Far(settings)
            first = far.block_of(10 ** 9)
            last = far.block_of(10 ** 20)
            begin, end = [Packing(settings).first_row(block * far.course.width) for block in (first, last)]
            book, tally = far.behind(begin), far.counts(first, last)
            for at, page in enumerate(uses(book)[:4] + book.free_pages(4)):
                many = min(4, len(uses(book)))
                place = ("use", at) if at < many else ("list", at - many)
                for kind in ("heap", "node", "log"):
                    told = takes(far, page, end, kind=kind) - takes(far, page, begin, kind=kind)
                    self.assertEqual(tally.count(place, kind), told)
                for kind in ("record", "write"):
                    told = wear_of(far, page, end, kind=kind) - wear_of(far, page, begin, kind=kind)
                    self.assertEqual(tally.count(place, kind), told)


if __name__ == "__main__":
    unittest.main()
