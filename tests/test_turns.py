"""Turns and tallies: [22] to [27], and what [2] and [3] say of them."""

import unittest
from random import Random

from keeprows import turns
from keeprows.errors import InvalidArgument
from keeprows.settings import Settings
from keeprows.turns import Tally, Turn, both, still, way

from plain import strange_objects
from refusals import check_refusals

KINDS = ["heap", "node", "log", "record", "write"]
# So many places of the list are looked at: more than any turn drawn here moves.
MANY = 40
NO_PLACES = strange_objects() + [
    0, ("use",), ("use", 0, 0), ("use", True), ("use", False), ("list", True), ("use", -1), ("list", -1), ("Use", 0),
    ("", 0), ("lists", 0), ["use", 0], ("use", 0.0), ("use", "0"), ("use", None), (b"use", 0), (0, "use"), (0, 0),
    ("use", [0]), ([], 0), ({}, {}), ("list", {}), (None, 0), (("use", 0),), (("use", 0), 0), {"use": 0}, "use",
]


def draw_turn(chance, ahead=None, most=8):
    """A turn with some pages in use, some of which come from the list, and a front in a drawn order."""
    ahead = chance.randint(0, most) if ahead is None else ahead
    fresh = chance.randint(0, most)
    places = [("use", number) for number in range(ahead)] + [("list", number) for number in range(fresh)]
    chance.shuffle(places)
    behind = chance.randint(0, len(places))
    return Turn(places[:behind], places[behind:], fresh)


def draw_chain(chance, many):
    chain = [draw_turn(chance)]
    while len(chain) < many:
        chain.append(draw_turn(chance, chain[-1].behind()))
    return chain


def places_of(many):
    """The places where so many pages are in use, some of the list among them."""
    return [("use", number) for number in range(many)] + [("list", number) for number in range(MANY)]


def far_places(many):
    return places_of(many) + [("list", 10 ** 30), ("list", 10 ** 30 + 1)]


class TurnTest(unittest.TestCase):

    def test_each_place_has_its_origin(self):
        chance = Random(1)
        for _ in range(300):
            ahead, fresh = chance.randint(0, 6), chance.randint(0, 6)
            places = [("use", number) for number in range(ahead)] + [("list", number) for number in range(fresh)]
            chance.shuffle(places)
            behind = chance.randint(0, len(places))
            used, front = places[:behind], places[behind:]
            turn = Turn(used, front, fresh)
            self.assertEqual([turn.ahead(), turn.behind(), turn.used()], [ahead, behind, used])
            self.assertEqual([turn.origin(("use", number)) for number in range(behind)], used)
            self.assertEqual([turn.origin(("list", number)) for number in range(len(front))], front)
            for more in [0, 1, 2, 50, 10 ** 30]:
                self.assertEqual(turn.origin(("list", len(front) + more)), ("list", fresh + more))
                self.assertEqual(turn.goal(("list", fresh + more)), ("list", len(front) + more))
            self.assertEqual(turn.behind() - turn.ahead(), turn.fresh() - len(turn.front()))

    def test_origin_and_goal_undo_one_another(self):
        chance = Random(2)
        for _ in range(300):
            turn = draw_turn(chance)
            for place in far_places(turn.ahead()):
                self.assertEqual(turn.origin(turn.goal(place)), place)
            for place in far_places(turn.behind()):
                self.assertEqual(turn.goal(turn.origin(place)), place)

    def test_the_front_is_the_shortest(self):
        chance = Random(3)
        for _ in range(300):
            turn = draw_turn(chance)
            front, fresh = turn.front(), turn.fresh()
            self.assertFalse(front and front[-1] == ("list", fresh - 1))
            for more in range(5):
                longer = front + [("list", fresh + number) for number in range(more)]
                other = Turn(turn.used(), longer, fresh + more)
                self.assertEqual((other.used(), other.front(), other.fresh()), (turn.used(), front, fresh))
                self.assertTrue(other == turn)
                self.assertFalse(other != turn)
        turn = Turn([], [("use", 0), ("list", 1), ("list", 0), ("list", 2), ("list", 3)], 4)
        self.assertEqual((turn.front(), turn.fresh()), ([("use", 0), ("list", 1), ("list", 0)], 2))
        turn = Turn([], [("list", 0), ("list", 1)], 2)
        self.assertEqual((turn.front(), turn.fresh(), turn == still(0)), ([], 0, True))
        turn = Turn([("list", 1)], [("list", 0)], 2)
        self.assertEqual((turn.front(), turn.fresh()), ([("list", 0)], 2))

    def test_places_behind_the_front_keep_their_order(self):
        chance = Random(4)
        for _ in range(100):
            turn = draw_turn(chance)
            numbers = [turn.origin(("list", len(turn.front()) + more)) for more in range(20)]
            self.assertEqual(numbers, [("list", turn.fresh() + more) for more in range(20)])

    def test_unlike_turns(self):
        one = Turn([("use", 0), ("list", 0)], [], 1)
        others = [
            Turn([("list", 0), ("use", 0)], [], 1), Turn([("use", 0)], [], 0), Turn([("use", 0), ("use", 1)], [], 0),
            Turn([("use", 0), ("list", 1)], [("list", 0)], 2), Turn([("use", 0), ("list", 0)], [("use", 1)], 1),
        ]
        others += [told for told in strange_objects() + [0, ([("use", 0), ("list", 0)], [], 1)]]
        for other in others:
            self.assertFalse(one == other)
            self.assertFalse(other == one)
            self.assertTrue(one != other)
        self.assertTrue(one == one)
        self.assertTrue(one == Turn(used=[("use", 0), ("list", 0)], front=[], fresh=1))

    def test_arguments_are_neither_changed_nor_kept(self):
        used, front = [("use", 0), ("list", 2)], [("list", 0), ("list", 1), ("list", 3), ("list", 4)]
        turn = Turn(used, front, 5)
        self.assertEqual([used, front], [
            [("use", 0), ("list", 2)], [("list", 0), ("list", 1), ("list", 3), ("list", 4)],
        ])
        used.clear()
        front[0] = "list"
        self.assertEqual([turn.used(), turn.front(), turn.fresh()], [
            [("use", 0), ("list", 2)], [("list", 0), ("list", 1)], 3,
        ])
        turn.used().clear()
        turn.front().append(1)
        self.assertEqual([turn.used(), turn.front()], [[("use", 0), ("list", 2)], [("list", 0), ("list", 1)]])

    def test_still(self):
        for many in [0, 1, 2, 7, 999, 1000]:
            turn = still(many)
            self.assertEqual([turn.ahead(), turn.behind(), turn.front(), turn.fresh()], [many, many, [], 0])
            for place in [("use", 0), ("use", many - 1)] * (many > 0) + [("list", 0), ("list", 10 ** 30)]:
                self.assertEqual([turn.origin(place), turn.goal(place)], [place, place])


class JoinTest(unittest.TestCase):

    def test_then_leads_where_both_lead(self):
        chance = Random(11)
        for _ in range(300):
            first, later = draw_chain(chance, 2)
            turn = first.then(later)
            self.assertEqual([turn.ahead(), turn.behind()], [first.ahead(), later.behind()])
            for place in far_places(turn.behind()):
                self.assertEqual(turn.origin(place), first.origin(later.origin(place)))
            for place in far_places(turn.ahead()):
                self.assertEqual(turn.goal(place), later.goal(first.goal(place)))

    def test_any_grouping(self):
        chance = Random(12)
        for _ in range(200):
            one, two, three, four = draw_chain(chance, 4)
            turn = one.then(two).then(three).then(four)
            self.assertTrue(turn == one.then(two.then(three.then(four))))
            self.assertTrue(turn == one.then(two).then(three.then(four)))
            self.assertTrue(turn == one.then(two.then(three)).then(four))

    def test_still_changes_nothing(self):
        chance = Random(13)
        for _ in range(100):
            turn = draw_turn(chance)
            self.assertTrue(still(turn.ahead()).then(turn) == turn)
            self.assertTrue(turn.then(still(turn.behind())) == turn)

    def test_way(self):
        chance = Random(14)
        for many in [1, 2, 5] * 40:
            chain = draw_chain(chance, many)
            for place in far_places(chain[0].ahead())[::3]:
                places = [place]
                for turn in chain:
                    places.append(turn.goal(places[-1]))
                self.assertEqual(way(chain, place), places)
                total = chain[0]
                for turn in chain[1:]:
                    total = total.then(turn)
                self.assertEqual(places[-1], total.goal(place))

    def test_way_of_an_empty_list(self):
        for place in [("use", 0), ("use", 10 ** 30), ("list", 0), ("list", 7)]:
            self.assertEqual(way([], place), [place])
        with self.assertRaises(InvalidArgument) as caught:
            way([], ("use", -1))
        self.assertEqual(caught.exception.part, "place")


def draw_tally(chance, many):
    """A tally of pages at some places where so many pages are in use."""
    places = chance.sample(places_of(many), chance.randint(0, 8))
    most = chance.choice([1, 3, 10 ** 30])
    return Tally({
        place: {kind: chance.randint(0, most) for kind in chance.sample(KINDS, chance.randint(0, 5))}
        for place in places
    })


class TallyTest(unittest.TestCase):

    def test_counts_without_what_is_0(self):
        tally = Tally({
            ("use", 3): {"heap": 0, "write": 2}, ("list", 0): {}, ("list", 1): {"log": 0, "node": 0},
            ("list", 10 ** 30): {"record": 10 ** 60},
        })
        self.assertEqual(tally.counts(), {("use", 3): {"write": 2}, ("list", 10 ** 30): {"record": 10 ** 60}})
        self.assertEqual(tally.count(("use", 3), "write"), 2)
        self.assertEqual(tally.count(("list", 10 ** 30), "record"), 10 ** 60)
        for place in [("use", 0), ("use", 3), ("list", 0), ("list", 1), ("list", 5)]:
            for kind in ["heap", "log", "node", "record"]:
                self.assertEqual(tally.count(place, kind), 0)
        self.assertEqual(Tally({}).counts(), {})

    def test_equality(self):
        one = Tally({("use", 0): {"heap": 1, "write": 2}, ("list", 4): {"log": 3}})
        for other in [
            Tally({("list", 4): {"log": 3}, ("use", 0): {"write": 2, "heap": 1}}),
            Tally({("use", 0): {"heap": 1, "node": 0, "write": 2}, ("use", 1): {}, ("list", 4): {"log": 3}}), one,
        ]:
            self.assertTrue(one == other)
            self.assertFalse(one != other)
        others = [
            Tally({}), Tally({("use", 0): {"heap": 1, "write": 2}}),
            Tally({("use", 0): {"heap": 1, "write": 2}, ("list", 4): {"log": 4}}),
            Tally({("use", 0): {"heap": 1, "write": 2}, ("list", 5): {"log": 3}}),
            Tally({("use", 0): {"heap": 1, "record": 2}, ("list", 4): {"log": 3}}), one.counts(),
        ]
        others += [told for told in strange_objects()]
        for other in others:
            self.assertFalse(one == other)
            self.assertFalse(other == one)
            self.assertTrue(one != other)

    def test_dicts_are_neither_changed_nor_kept(self):
        told = {("use", 0): {"heap": 1, "write": 0}}
        tally = Tally(told)
        self.assertEqual(told, {("use", 0): {"heap": 1, "write": 0}})
        told[("use", 0)]["heap"] = 7
        told[("use", 1)] = {"heap": 7}
        self.assertEqual(tally.counts(), {("use", 0): {"heap": 1}})
        tally.counts()[("use", 0)]["heap"] = 7
        tally.counts().clear()
        self.assertEqual(tally.counts(), {("use", 0): {"heap": 1}})

    def test_both_adds_by_the_places_ahead(self):
        chance = Random(21)
        for _ in range(300):
            turn = draw_turn(chance)
            first, second = draw_tally(chance, turn.ahead()), draw_tally(chance, turn.behind())
            before = (first.counts(), second.counts())
            total = both(turn, first, second)
            for place in places_of(turn.ahead()):
                for kind in KINDS:
                    number = first.count(place, kind) + second.count(turn.goal(place), kind)
                    self.assertEqual(total.count(place, kind), number)
            for place in total.counts():
                self.assertTrue(place in first.counts() or turn.goal(place) in second.counts())
            self.assertEqual((first.counts(), second.counts()), before)

    def test_both_in_any_grouping(self):
        chance = Random(22)
        for _ in range(200):
            one, two = draw_chain(chance, 2)
            tallies = [draw_tally(chance, many) for many in (one.ahead(), one.behind(), two.behind())]
            total = both(one.then(two), both(one, tallies[0], tallies[1]), tallies[2])
            self.assertTrue(total == both(one, tallies[0], both(two, tallies[1], tallies[2])))

    def test_both_with_nothing(self):
        chance = Random(23)
        for _ in range(50):
            turn = draw_turn(chance)
            tally = draw_tally(chance, turn.ahead())
            self.assertTrue(both(turn, tally, Tally({})) == tally)
            self.assertTrue(both(still(turn.ahead()), Tally({}), tally) == tally)

    def test_counts_of_0_may_stand_anywhere(self):
        turn = Turn([("use", 0), ("list", 0)], [], 1)
        tally = Tally({("use", 9): {"heap": 0}, ("use", 8): {}})
        self.assertTrue(both(turn, tally, tally) == Tally({}))


def lists_but():
    """What is no list of places."""
    wrong = [told for told in strange_objects() if told != []] + [(("use", 0),), {("use", 0): 1}, "use", 0]
    return wrong + [[place] for place in NO_PLACES] + [[("use", 0), place] for place in NO_PLACES]


WRONG_USED = ("used", lists_but(), InvalidArgument, "used")
WRONG_FRONT = ("front", lists_but(), InvalidArgument, "front")
WRONG_FRESH = ("fresh", strange_objects() + [-1, -10 ** 30, "1", (1,), [1]], InvalidArgument, "fresh")
NO_KINDS = strange_objects() + [0, "", "Heap", "write ", "records", b"heap", ["heap"], ("heap",), {"heap"}, "use"]


class WrongArgumentsTest(unittest.TestCase):

    def test_parts_of_a_turn(self):
        good = {"used": [("use", 0), ("list", 1)], "front": [("list", 0)], "fresh": 2}
        wrong_places = ("fresh", [0, 1, 3, 10 ** 60], InvalidArgument, "places")
        check_refusals(self, Turn, good, [WRONG_USED, WRONG_FRONT, WRONG_FRESH, wrong_places])

    def test_places_that_are_not_each_once(self):
        for used, front, fresh in [
            ([], [], 1), ([("use", 1)], [], 0), ([("use", 0), ("use", 0)], [], 0), ([("use", 0)], [("use", 0)], 0),
            ([("list", 0)], [], 0), ([("list", 0)], [], 2), ([("list", 0)], [("list", 0)], 1), ([("list", 1)], [], 1),
            ([("list", 0)], [("list", 0)], 2), ([("use", 0), ("use", 2)], [], 0), ([], [("use", 0), ("use", 10 ** 30)], 0),
            ([], [], 10 ** 30), ([("list", 10 ** 30)], [], 1), ([("use", 1)], [("list", 0)], 1),
        ]:
            with self.assertRaises(InvalidArgument) as caught:
                Turn(used, front, fresh)
            self.assertEqual(caught.exception.part, "places")

    def test_what_is_no_place_there(self):
        turn = Turn([("use", 0), ("list", 1)], [("list", 0), ("use", 1), ("use", 2)], 2)
        wrong = [("place", NO_PLACES + [("use", 2), ("use", 10 ** 30)], InvalidArgument, "place")]
        check_refusals(self, turn.origin, {"place": ("use", 1)}, wrong)
        wrong = [("place", NO_PLACES + [("use", 3), ("use", 10 ** 30)], InvalidArgument, "place")]
        check_refusals(self, turn.goal, {"place": ("use", 2)}, wrong)

    def test_still_of_what_is_no_number(self):
        wrong = strange_objects() + [-1, -10 ** 30, 1001, 10 ** 30, "1", (1,)]
        check_refusals(self, still, {"many": 1000}, [("many", wrong, InvalidArgument, "many")])
        check_refusals(self, still, {"many": 0}, [("many", wrong, InvalidArgument, "many")])

    def test_then_of_what_is_no_later_turn(self):
        turn = Turn([("use", 0), ("list", 0)], [], 1)
        wrong = [told for told in strange_objects() if not isinstance(told, Turn)]
        wrong += [still(many) for many in (0, 1, 3, 4)] + [turn, [still(2)], 2]
        check_refusals(self, turn.then, {"later": still(2)}, [("later", wrong, InvalidArgument, "later")])

    def test_way_of_what_are_no_turns(self):
        take = Turn([("use", 0), ("list", 0)], [], 1)
        wrong = [told for told in strange_objects() if told != []] + [
            take, (take,), [take, take], [still(2), still(3)], [take, None], [None, take], [[take]], [still(2), take], 0,
        ]
        wrong = [
            ("turns", wrong, InvalidArgument, "turns"),
            ("place", NO_PLACES + [("use", 1), ("use", 10 ** 30)], InvalidArgument, "place"),
        ]
        check_refusals(self, way, {"turns": [take, still(2)], "place": ("use", 0)}, wrong)
        wrong = [("place", NO_PLACES, InvalidArgument, "place")]
        check_refusals(self, way, {"turns": [], "place": ("use", 0)}, wrong)

    def test_what_are_no_counts(self):
        place = ("use", 7)
        wrong = [told for told in strange_objects() if told != {}] + [0, [], [place], (place, {})]
        hashable = [told for told in NO_PLACES if told.__hash__ is not None]
        for told in hashable:
            # A tuple may hold what can be no key.
            if not isinstance(told, tuple) or not any(isinstance(part, (list, dict, set)) for part in told):
                wrong += [{told: {}}, {place: {}, told: {"heap": 1}}]
        for kind in NO_KINDS:
            if kind.__hash__ is not None:
                wrong += [{place: {kind: 1}}, {place: {kind: 0}}, {place: {"heap": 1, kind: 0}}]
        for number in strange_objects() + [-1, -10 ** 30, "1"]:
            wrong += [{place: {"heap": number}}, {place: {"heap": 1}, ("list", 0): {"log": 1, "write": number}}]
        wrong += [{place: told} for told in strange_objects() if told != {}]
        check_refusals(self, Tally, {"counts": {place: {"heap": 1}}}, [("counts", wrong, InvalidArgument, "counts")])

    def test_count_of_what_is_no_place_or_kind(self):
        # The document names each parameter; a Tally's method count is asked by position, too.
        tally = Tally({("use", 0): {"heap": 1}})
        wrong = [("place", NO_PLACES, InvalidArgument, "place"), ("kind", NO_KINDS, InvalidArgument, "kind")]
        check_refusals(self, tally.count, {"place": ("use", 0), "kind": "heap"}, wrong)

    def test_both_of_what_is_no_turn_or_tally(self):
        turn = Turn([("use", 0), ("list", 0)], [("use", 1), ("use", 2)], 1)
        no_tallies = [told for told in strange_objects() if not isinstance(told, Tally)] + [0, {("use", 0): {"heap": 1}}]
        no_turns = [told for told in strange_objects() if not isinstance(told, Turn)] + [0, [turn]]
        ahead = [Tally({("use", number): {"log": 1}}) for number in (3, 4, 10 ** 30)]
        behind = [Tally({("list", 0): {"log": 1}, ("use", number): {"log": 1}}) for number in (2, 3, 10 ** 30)]
        wrong = [
            ("turn", no_turns, InvalidArgument, "turn"), ("first", no_tallies + ahead, InvalidArgument, "first"),
            ("second", no_tallies + behind, InvalidArgument, "second"),
        ]
        good = {"turn": turn, "first": Tally({("use", 2): {"log": 1}}), "second": Tally({("use", 1): {"log": 1}})}
        check_refusals(self, both, good, wrong)

    def test_an_error_changes_nothing(self):
        used, front = [("use", 0), ("use", 2)], [("list", 0)]
        with self.assertRaises(InvalidArgument):
            Turn(used, front, 1)
        self.assertEqual([used, front], [[("use", 0), ("use", 2)], [("list", 0)]])
        turn, tally = Turn([("use", 0), ("list", 0)], [], 1), Tally({("use", 0): {"heap": 1}})
        for call in [turn.origin, turn.goal, turn.then]:
            with self.assertRaises(InvalidArgument):
                call(("use", 5))
        with self.assertRaises(InvalidArgument):
            both(turn, tally, Tally({("use", 5): {"heap": 1}}))
        self.assertEqual([turn.used(), turn.front(), turn.fresh()], [[("use", 0), ("list", 0)], [], 1])
        self.assertEqual(tally.counts(), {("use", 0): {"heap": 1}})


class InterfaceTest(unittest.TestCase):

    def test_each_thing_stands_in_its_file(self):
        for thing in [Turn, Tally, still, way, both]:
            self.assertEqual(thing.__module__, "keeprows.turns")
            self.assertIs(getattr(turns, thing.__name__), thing)
        for name in ["__init__", "__eq__", "used", "front", "fresh", "ahead", "behind", "origin", "goal", "then"]:
            self.assertIn(name, vars(Turn))
        for name in ["__init__", "__eq__", "counts", "count"]:
            self.assertIn(name, vars(Tally))

    def test_kinds_of_what_is_returned(self):
        turn = Turn([("use", 0), ("list", 0)], [("use", 1)], 1)
        kinds = [type(told) for told in [turn.used(), turn.front(), turn.fresh(), turn.ahead(), turn.behind()]]
        self.assertEqual(kinds, [list, list, int, int, int])
        for place in [turn.origin(("use", 0)), turn.origin(("list", 9)), turn.goal(("use", 1)), turn.goal(("list", 9))]:
            self.assertEqual([type(place), type(place[0]), type(place[1])], [tuple, str, int])
        self.assertIs(type(turn.then(still(2))), Turn)
        self.assertIs(type(way([turn], ("use", 0))), list)
        self.assertEqual([type(Tally({}).counts()), type(Tally({}).count(("use", 0), "log"))], [dict, int])

    def test_settings_are_no_part_of_it(self):
        self.assertFalse(still(3) == Settings([1], 1, fanout=2, records=1, every=1, keep=1))


if __name__ == "__main__":
    unittest.main()
