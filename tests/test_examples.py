"""The examples of the document, each behind the promise ahead of it.

[9]

>>> from keeprows.settings import Settings
>>> from keeprows.texts import read_settings, settings_text
>>> settings = Settings([2, 1, 3], 5, fanout=2, records=3, every=4, keep=9)
>>> [settings_text(settings), settings.length_of(10 ** 29)]
['lengths 2 1 3\\nsize 5\\nfanout 2\\nrecords 3\\nevery 4\\nkeep 9\\n', 1]
>>> read_settings("lengths 2 1 3\\nsize 5\\nfanout 2\\nrecords 3\\nevery 4\\nkeep 9\\n") == settings
True

[14]

>>> from keeprows.packing import Packing
>>> from keeprows.settings import Settings
>>> packing = Packing(Settings([2, 1, 3], 5, fanout=2, records=3, every=4, keep=9))
>>> [packing.cycle(), [packing.first_row(page) for page in range(5)], packing.units_on(1), packing.units_left(2)]
[(0, 3, 6), [0, 2, 4, 6, 8], 5, 2]
>>> [packing.page_of(10 ** 29), packing.begun(7), packing.rows_on(0)]
[50000000000000000000000000000, 4, 2]

[15]

>>> from keeprows.settings import Settings
>>> from keeprows.trees import live_pages, next_border
>>> s = Settings([1], 1, fanout=2, records=4, every=10, keep=3)
>>> [live_pages(s, 6), next_border(s, 5, 2)]
[(3, 6), (8, 8)]

[16]

>>> from keeprows.settings import Settings
>>> from keeprows.trees import covered, node_over
>>> s = Settings([1], 1, fanout=2, records=4, every=10, keep=3)
>>> [covered(s, (2, 1)), node_over(s, 5, 0)]
[(8, 16), (0, 2)]

[17]

>>> from keeprows.settings import Settings
>>> from keeprows.trees import tree_nodes, tree_root
>>> s = Settings([1], 1, fanout=2, records=4, every=10, keep=3)
>>> [tree_nodes(s, 6), tree_nodes(s, 7), tree_root(s, 2 ** 90 + 1)]
[[(0, 1), (0, 2), (1, 0), (1, 1), (2, 0)], [(0, 2), (0, 3), (1, 1)], (90, 0)]

[18]

>>> from keeprows.settings import Settings
>>> from keeprows.trees import children, parent
>>> s = Settings([1], 1, fanout=2, records=4, every=10, keep=3)
>>> [children(s, 6, (1, 0)), children(s, 6, (0, 1)), parent(s, 6, (0, 1))]
[[(0, 1)], [3], (1, 0)]

[19]

>>> from keeprows.settings import Settings
>>> from keeprows.trees import path_to
>>> s = Settings([1], 1, fanout=2, records=4, every=10, keep=3)
>>> path_to(s, 6, 4)
[((2, 0), 1), ((1, 1), 0), ((0, 2), 0)]

[20]

>>> from keeprows.settings import Settings
>>> from keeprows.trees import begun_by, ended_by
>>> s = Settings([1], 1, fanout=2, records=4, every=10, keep=3)
>>> [begun_by(s, 4), ended_by(s, 4), ended_by(s, 6)]
[(4, [(0, 2), (1, 1), (2, 0)]), (1, [(0, 0)]), (3, [(0, 1), (1, 0), (2, 0)])]

[21]

>>> from keeprows.settings import Settings
>>> from keeprows.trees import node_times
>>> s = Settings([1], 1, fanout=2, records=4, every=10, keep=3)
>>> [node_times(s, (2, 0)), node_times(s, (0, 1))]
[[(5, 7), (9, 11)], [(3, 7)]]

[24]

>>> from keeprows.turns import Turn
>>> take = Turn([("use", 0), ("list", 0)], [], 1)
>>> free = Turn([("use", 1)], [("use", 0)], 0)
>>> [take.ahead(), take.behind(), take.goal(("list", 3)), free.origin(("list", 1))]
[1, 2, ('list', 2), ('list', 0)]

[25]

>>> from keeprows.turns import Turn, way
>>> take = Turn([("use", 0), ("list", 0)], [], 1)
>>> free = Turn([("use", 1)], [("use", 0)], 0)
>>> [take.then(free) == Turn([("list", 0)], [("use", 0)], 1), way([take, free], ("list", 0))]
[True, [('list', 0), ('use', 1), ('use', 0)]]

[26]

>>> from keeprows.turns import Tally, Turn, both
>>> take = Turn([("use", 0), ("list", 0)], [], 1)
>>> one = Tally({("list", 0): {"heap": 1, "write": 2}})
>>> other = Tally({("use", 1): {"write": 3}, ("list", 0): {"log": 1}})
>>> both(take, one, other) == Tally({("list", 0): {"heap": 1, "write": 5}, ("list", 1): {"log": 1}})
True

[35]

>>> from keeprows.settings import Settings
>>> from keeprows.stores import Store
>>> store = Store(Settings([1], 2, fanout=2, records=2, every=4, keep=3))
>>> store.step()
[('take', 0, ('log', 0)), ('record', 0, 0), ('take', 1, ('heap', 0)), ('take', 2, ('node', 0, 0)), ('put', 1, 0)]
>>> [store.steps(3), store.heap_pages(), store.root(), store.log_pages(), store.changed_pages(), store.free_pages(3)]
[13, [(0, 1), (1, 4)], (0, 0, 2), [], [], [3, 0, 5]]

[37]

>>> from keeprows.logs import log_takes, log_total, record_place, take_row
>>> from keeprows.settings import Settings
>>> settings = Settings([1], 2, fanout=2, records=2, every=5, keep=3)
>>> [record_place(settings, 8), log_total(settings, 8), log_takes(settings, 8), take_row(settings, 5)]
[(1, 1), 2, 5, 9]

[50]

>>> from keeprows.settings import Settings
>>> from keeprows.far import Far
>>> from keeprows.roles import page_with, role_at
>>> far = Far(Settings([1], 2, fanout=2, records=2, every=4, keep=3))
>>> [role_at(far, 4, 9), role_at(far, 4, 7), page_with(far, ("heap", 3), 9)]
[('node', 1, 1), ('waiting', 1), 8]

[52]

>>> from keeprows.settings import Settings
>>> from keeprows.far import Far
>>> from keeprows.roles import last_taken, next_taken, taken, takes
>>> far = Far(Settings([1], 2, fanout=2, records=2, every=4, keep=3))
>>> [takes(far, 4, 12), takes(far, 4, 12, kind="node"), taken(far, 4, 1), last_taken(far, 4, 8), next_taken(far, 1, 9)]
[2, 1, (8, ('node', 1, 1)), (2, ('heap', 1)), (12, ('node', 0, 3))]

[53]

>>> from keeprows.settings import Settings
>>> from keeprows.far import Far
>>> from keeprows.roles import role_span
>>> far = Far(Settings([1], 2, fanout=2, records=2, every=4, keep=3))
>>> [role_span(far, 4, moment) for moment in (2, 6, 7, 8, 10)]
[(None, 0, 3), (('heap', 1), 3, 7), (('waiting',), 7, 8), (('free',), 8, 9), (('node', 1, 1), 9, 11)]

[54]

>>> from keeprows.settings import Settings
>>> from keeprows.far import Far
>>> from keeprows.roles import home, homes
>>> far = Far(Settings([1], 2, fanout=2, records=2, every=4, keep=3))
>>> [[home(far, number) for number in range(6)], homes(far, (1, 0))]
[[1, 4, 0, 8, 3, 10], [(5, 7, 6), (9, 11, 2)]]

[57]

>>> from keeprows.settings import Settings
>>> from keeprows.far import Far
>>> from keeprows.wear import most_worn, wear_of, wear_row
>>> far = Far(Settings([1], 2, fanout=2, records=2, every=4, keep=3))
>>> [wear_row(far, 8), most_worn(far, 8), wear_of(far, 0, 8), wear_of(far, 0, 8, kind="record")]
[[3, 1, 1, 4, 1, 1, 0, 2, 1], (3, 4), 3, 2]

[60]

>>> from keeprows.settings import Settings
>>> from keeprows.far import Far
>>> from keeprows.wear import last_writing, next_writing, spent, worn_out, writing
>>> far = Far(Settings([1], 2, fanout=2, records=2, every=4, keep=3))
>>> [writing(far, 0, 2), last_writing(far, 3, 8), next_writing(far, 5, 0), spent(far, 8), worn_out(far, 4)]
[(7, 'write'), (5, 'record'), (7, 'write'), (28, 8), (5, 3)]

[66]

>>> from keeprows.settings import Settings
>>> from keeprows.far import Far
>>> from keeprows.crashes import disk, needed_until, overwritten, recovered, redone
>>> far = Far(Settings([1], 2, fanout=2, records=2, every=4, keep=3))
>>> [disk(far, 6).picture, disk(far, 6).records]
[(4, [(0, 1), (1, 4)], [(0, 0, 2)], [3, 0], 5), [(4, 1), (5, 1)]]
>>> redone(disk(far, 5))
[('take', 3, ('log', 0)), ('take', 0, ('heap', 2)), ('take', 5, ('node', 0, 1)), ('take', 6, ('node', 1, 0)), ('put', 0, 4), ('give', 1, ('heap', 0))]
>>> [recovered(disk(far, 6)).heap_pages(), overwritten(far, 6), needed_until(far, 6, 4)]
[[(1, 4), (2, 0)], [3], 8]

[70]

>>> from keeprows.settings import Settings
>>> from keeprows.far import Far
>>> from keeprows.copies import change, content, copy_at, rows_in
>>> far = Far(Settings([1], 2, fanout=2, records=2, every=4, keep=3))
>>> [content(far, 6, page) for page in [0, 1, 2, 6]]
[('heap', 2, 4, 6), None, ('node', 0, 0, ((1, 4),)), ('node', 1, 0, ((0, 2), (1, 5)))]
>>> [sorted(change(far, 4, 6).contents), change(far, 4, 6).gone, rows_in(copy_at(far, 6))]
[[0, 2, 5, 6], [1], [3, 4, 5]]

[72]

>>> from keeprows.settings import Settings
>>> from keeprows.far import Far
>>> from keeprows.scans import Scans, jumps
>>> far = Far(Settings([1], 2, fanout=2, records=2, every=4, keep=3))
>>> scans = Scans(far)
>>> [scans.row_scan(9), scans.index_scan(9, 6, 8), jumps([1, 2, 5, 8, 4, 6, 3])]
[[8, 3], [1, 2, 5, 8, 4, 6, 3], (5, 16)]

[74]

>>> from keeprows.settings import Settings
>>> from keeprows.far import Far
>>> from keeprows.scans import Scans
>>> far = Far(Settings([1], 2, fanout=2, records=2, every=4, keep=3))
>>> scans = Scans(far)
>>> [scans.jump_sum(0, 5), scans.jump_sum(2, 2), scans.jump_sum(3, 5)]
[(5, 27), (0, 0), (2, 12)]

[76]

>>> from keeprows.settings import Settings
>>> from keeprows.sizes import greatest_height, height_count, height_sum, next_height
>>> s = Settings([1], 1, fanout=2, records=4, every=10, keep=3)
>>> [height_count(s, 3, 0, 11), height_sum(s, 0, 7), next_height(s, 7, 4), greatest_height(s, 0, 10 ** 6)]
[4, 12, 9, (20, 524289)]

[78]

>>> from keeprows.far import Far
>>> from keeprows.settings import Settings
>>> from keeprows.sizes import grown, growths
>>> far = Far(Settings([1], 2, fanout=2, records=2, every=4, keep=3))
>>> [growths(far, 0, 20), grown(far, 10)]
[[(1, 3), (3, 5), (5, 7), (7, 9), (11, 11), (19, 13)], 11]

[83]

>>> from keeprows.comparing import first_parting, least_files, next_larger, turning_points
>>> from keeprows.far import Far
>>> from keeprows.settings import Settings
>>> far = Far(Settings([1], 2, fanout=2, records=2, every=4, keep=3))
>>> low = Far(Settings([1], 2, fanout=2, records=2, every=4, keep=1))
>>> [first_parting(far.settings, low.settings), first_parting(far.settings, Settings([2], 4, fanout=2, records=2, every=4, keep=3))]
[2, None]
>>> [least_files([far, low], 4), turning_points([far, low], 0, 5), next_larger(far, low, 0)]
[[0, 1], [(0, [0, 1]), (5, [1])], 5]
"""

import doctest
import sys
import unittest


class ExamplesTest(unittest.TestCase):

    def test_the_examples(self):
        failed, tried = doctest.testmod(sys.modules[__name__])
        self.assertEqual(failed, 0)
        self.assertEqual(tried, 131)


if __name__ == "__main__":
    unittest.main()
