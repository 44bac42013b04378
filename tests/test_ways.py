"""Points [51] to [55], 52 also of movings, and framerooms/ways.py in the interface; of [6] what it says of ways."""

import copy
import itertools
import unittest

from framerooms.errors import Gone, Ground, Kept, NoFrame, NoHands
from framerooms.house import House
from framerooms.moving import finish_moved
from framerooms.ways import finish_caught, kept, shows_kept, ways_in
from tests.helper import LONG, Case, any_things, is_int, outcome, seen, thrown


def shed():
    """1 in the ground, 2 in 1, 3 in the ground, 4 in 2; 3 has ended.

    Rooms of 2 and 1 in the ground, 1 and 2 in 1, 2 and 1 in 2, 1 in 4; one of 1 was in 3.
    """
    house = House(20)
    for frame in (0, 1, 0, 2):
        house.begin(frame)
    for frame, size in ((0, 2), (0, 1), (1, 1), (1, 2), (2, 2), (2, 1), (4, 1), (3, 1)):
        house.make(frame, size)
    house.finish(3)
    return house


def shows(house, frame, hands):
    return shows_kept(house, frame, hands, (2, 0), [("hand", "a", (2, 0))])


ALL_FIVE = (ways_in, kept, finish_caught, shows, finish_moved)


class Refused(Case):
    def test_what_is_no_frame(self):
        house = shed()
        for thing in [5, 6, -1, LONG, True, False] + any_things() + [house]:
            if not (is_int(thing) and 0 <= thing <= 4):
                for deed in ALL_FIVE:
                    for hands in ({}, {"a": (2, 0)}, None, {"A": 1}):
                        self.assertIs(self.refused(house, NoFrame, deed, house, thing, hands).found, thing)

    def test_an_ended_frame(self):
        house = shed()
        house.finish(2)
        for deed in ALL_FIVE:
            for hands in ({}, {"a": (2, 0)}, None, {"A": 1}):
                for frame, by in ((3, 3), (2, 2), (4, 2)):
                    answer = self.refused(house, Gone, deed, house, frame, hands)
                    self.alike((answer.found, answer.by), (frame, by))

    def test_the_ground(self):
        for house in (House(1), shed()):
            for deed in ALL_FIVE:
                for hands in ({}, None, [], {"A": 1}, {"a": True}):
                    self.refused(house, Ground, deed, house, 0, hands)

    def test_what_is_no_dict(self):
        house = shed()
        for deed in ALL_FIVE:
            for thing in any_things() + [house, [("a", 1)], (("a", 1),), "a"]:
                if not isinstance(thing, dict):
                    self.assertIs(self.refused(house, NoHands, deed, house, 2, thing).found, thing)

    def test_what_has_other_keys_than_names(self):
        house = shed()
        for key in ("", "A", "abcdefg", "a b", "a1", "a\n", "_", 0, 1, None, True, (0, 0), ("a",)):
            for deed in ALL_FIVE:
                for thing in ({key: 1}, {"a": 1, key: None}, {key: (2, 0), "b": 2}):
                    self.assertIs(self.refused(house, NoHands, deed, house, 2, thing).found, thing)

    def test_what_has_other_values(self):
        house = shed()
        values = [True, False, "a", "", "none", [], [2, 0], (), (2,), (2, 0, 0), (2, 1), (2, 3), (0, 1), (5, 0)]
        values += [(-1, 0), (3, 1), (True, 0), (2, False), {}, {"a": 1}, [None], House(1), ((2, 0),), ("2", "0")]
        for value in values:
            for deed in ALL_FIVE:
                for thing in ({"a": value}, {"a": (2, 0), "b": value}, {"a": value, "b": 1}):
                    self.assertIs(self.refused(house, NoHands, deed, house, 2, thing).found, thing)

    def test_a_way_of_another_house(self):
        house, other = shed(), House(9)
        other.begin(0)
        way = other.make(1, 1)
        other.make(1, 1)
        self.assertEqual(ways_in(house, 1, {"a": way}), [("hand", "a", way)])
        hands = {"a": (1, 1)}
        self.assertIs(self.refused(other, NoHands, ways_in, other, 1, {"a": (0, 0)}).found["a"], (0, 0))
        self.assertEqual(ways_in(other, 1, hands), [("hand", "a", (1, 1))])

    def test_the_whole_thing_is_held(self):
        house = shed()
        thing = {"a": [1, [2]], "b": 3}
        found = outcome(kept, house, 2, thing)[1]["found"]
        thing["a"][1].append(4)
        self.assertIs(found, thing)


class WaysIn(Case):
    def test_none_leads_in(self):
        house = shed()
        for frame in (1, 2, 4):
            self.alike(ways_in(house, frame, {}), [])
            self.alike(ways_in(house, frame, {"a": None, "b": 3, "c": (0, 0), "d": (3, 0)}), [])

    def test_hands_in_the_order_of_the_dict(self):
        house = shed()
        hands = {"z": (2, 2), "b": 4, "a": (2, 0), "zz": (4, 0), "c": (1, 0), "d": (2, 2), "abcdef": (3, 0)}
        self.alike(ways_in(house, 2, hands), [
            ("hand", "z", (2, 2)), ("hand", "a", (2, 0)), ("hand", "zz", (4, 0)), ("hand", "d", (2, 2)),
        ])
        self.alike(ways_in(house, 4, hands), [("hand", "zz", (4, 0))])
        self.alike([link[1] for link in ways_in(house, 1, hands)], ["z", "a", "zz", "c", "d"])

    def test_cells_behind_the_hands_frame_by_frame(self):
        house = shed()
        house.begin(0)
        house.begin(1)
        house.make(5, 2)
        house.make(6, 1)
        for way, k, value in (
            ((6, 0), 0, (2, 0)), ((5, 0), 1, (4, 0)), ((5, 0), 0, (2, 2)), ((1, 1), 1, (2, 0)), ((1, 0), 0, (2, 2)),
            ((0, 2), 0, (4, 0)), ((0, 0), 1, (2, 0)), ((0, 0), 0, (2, 0)),
        ):
            house.put(way, k, value)
        self.alike(ways_in(house, 2, {"x": (4, 0)}), [
            ("hand", "x", (4, 0)),
            ("room", (0, 0), 0, (2, 0)), ("room", (0, 0), 1, (2, 0)), ("room", (0, 2), 0, (4, 0)),
            ("room", (1, 0), 0, (2, 2)), ("room", (1, 1), 1, (2, 0)),
            ("room", (5, 0), 0, (2, 2)), ("room", (5, 0), 1, (4, 0)), ("room", (6, 0), 0, (2, 0)),
        ])
        self.alike(ways_in(house, 4, {}), [("room", (0, 2), 0, (4, 0)), ("room", (5, 0), 1, (4, 0))])

    def test_frames_around_are_outside_and_those_within_inside(self):
        house = shed()
        house.put((0, 0), 0, (1, 0))
        house.put((1, 0), 0, (2, 0))
        house.put((2, 0), 0, (4, 0))
        house.put((4, 0), 0, (1, 0))
        self.alike(ways_in(house, 1, {}), [("room", (0, 0), 0, (1, 0))])
        self.alike(ways_in(house, 2, {}), [("room", (1, 0), 0, (2, 0))])
        self.alike(ways_in(house, 4, {}), [("room", (2, 0), 0, (4, 0))])

    def test_ways_to_what_is_gone_lead_nowhere(self):
        house = shed()
        house.put((0, 0), 0, (4, 0))
        house.put((0, 0), 1, (2, 0))
        house.finish(4)
        self.alike(ways_in(house, 2, {"a": (4, 0), "b": (3, 0)}), [("room", (0, 0), 1, (2, 0))])

    def test_what_is_gone_holds_nothing(self):
        house = House(9)
        house.begin(0)
        house.begin(0)
        house.make(1, 1)
        house.make(2, 1)
        house.put((2, 0), 0, (1, 0))
        self.alike(ways_in(house, 1, {}), [("room", (2, 0), 0, (1, 0))])
        house.finish(2)
        self.alike(ways_in(house, 1, {}), [])

    def test_numbers_lead_nowhere(self):
        house = shed()
        house.put((0, 0), 0, 2)
        self.alike(ways_in(house, 2, {"a": 2, "b": 0}), [])


class KeptRooms(Case):
    def test_none(self):
        house = shed()
        house.put((2, 0), 0, (2, 2))
        house.put((2, 2), 0, (2, 0))
        house.put((4, 0), 0, (0, 0))
        self.alike(kept(house, 2, {}), {})
        self.alike(kept(house, 2, {"a": (0, 0), "b": (1, 0), "c": 5, "d": None, "e": (3, 0)}), {})

    def test_a_chain(self):
        house = shed()
        house.put((2, 0), 1, (2, 2))
        house.put((2, 2), 0, (4, 0))
        first = ("hand", "a", (2, 0))
        second = ("room", (2, 0), 1, (2, 2))
        third = ("room", (2, 2), 0, (4, 0))
        self.alike(
            kept(house, 2, {"a": (2, 0)}), {(2, 0): [first], (2, 2): [first, second], (4, 0): [first, second, third]}
        )
        self.alike(kept(house, 4, {"a": (2, 0)}), {(4, 0): [third]})

    def test_the_first_row_that_is_found_stays(self):
        house = shed()
        house.put((0, 0), 0, (2, 0))
        house.put((1, 0), 0, (2, 2))
        house.put((2, 0), 0, (2, 2))
        house.put((2, 0), 1, (4, 0))
        house.put((2, 2), 0, (4, 0))
        rows = kept(house, 2, {"b": (2, 0), "a": (2, 0)})
        self.alike(rows, {
            (2, 0): [("hand", "b", (2, 0))], (2, 2): [("room", (1, 0), 0, (2, 2))],
            (4, 0): [("hand", "b", (2, 0)), ("room", (2, 0), 1, (4, 0))],
        })

    def test_the_order_is_that_of_finding(self):
        house = House(30)
        house.begin(0)
        for turn in range(6):
            house.make(1, 2)
        a, b, c, d, e, f = house.rooms(1)
        house.put(d, 0, f)
        house.put(d, 1, a)
        house.put(b, 0, e)
        house.put(b, 1, a)
        house.put(e, 0, c)
        house.put(a, 0, c)
        rows = kept(house, 1, {"x": d, "y": b})
        self.alike(list(rows), [d, b, f, a, e, c])
        self.alike(rows[c], [("hand", "x", d), ("room", d, 1, a), ("room", a, 0, c)])
        rows = kept(house, 1, {"y": b, "x": d})
        self.alike(list(rows), [b, d, e, a, f, c])
        self.alike(rows[c], [("hand", "y", b), ("room", b, 0, e), ("room", e, 0, c)])

    def test_rings_of_ways(self):
        house = shed()
        house.put((2, 0), 0, (2, 0))
        house.put((2, 0), 1, (4, 0))
        house.put((4, 0), 0, (2, 0))
        first = ("hand", "a", (4, 0))
        self.alike(kept(house, 2, {"a": (4, 0)}), {(4, 0): [first], (2, 0): [first, ("room", (4, 0), 0, (2, 0))]})

    def test_an_outside_room_that_nobody_holds_still_keeps(self):
        house = shed()
        house.put((1, 1), 1, (2, 2))
        self.alike(kept(house, 2, {}), {(2, 2): [("room", (1, 1), 1, (2, 2))]})

    def test_a_way_through_an_outside_room_is_a_row_of_its_own(self):
        house = shed()
        house.put((2, 0), 0, (0, 0))
        house.put((0, 0), 1, (2, 2))
        rows = kept(house, 2, {"a": (2, 0)})
        self.alike(rows, {(2, 0): [("hand", "a", (2, 0))], (2, 2): [("room", (0, 0), 1, (2, 2))]})

    def test_a_row_of_hundreds(self):
        house = House(1000)
        house.begin(0)
        ways = [house.make(1, 1) for turn in range(999)]
        hand = house.make(0, 1)
        house.put(hand, 0, ways[-1])
        for way, inner in zip(ways[1:], ways):
            house.put(way, 0, inner)
        rows = kept(house, 1, {})
        self.assertEqual(list(rows), list(reversed(ways)))
        self.assertEqual([len(row) for row in rows.values()], list(range(1, 1000)))
        self.assertIs(shows_kept(house, 1, {}, ways[0], rows[ways[0]]), True)

    def test_frames_at_their_bound(self):
        house = House(1000)
        for frame in range(100):
            house.begin(frame)
        for frame in range(100):
            way = house.make(100 - frame, 1)
            if frame:
                house.put(way, 0, (101 - frame, 0))
        self.alike(list(kept(house, 1, {"a": (1, 0)})), [(frame, 0) for frame in range(1, 101)])
        self.alike(list(kept(house, 1, {"a": (60, 0)})), [(frame, 0) for frame in range(60, 101)])
        self.alike(kept(house, 100, {}), {(100, 0): [("room", (99, 0), 0, (100, 0))]})


class FinishCaught(Case):
    def test_finished_where_nothing_is_kept(self):
        house = shed()
        house.put((2, 0), 0, (4, 0))
        house.put((4, 0), 0, (0, 0))
        house.put((0, 0), 0, (1, 0))
        self.alike(finish_caught(house, 2, {"a": (1, 0), "b": (3, 0), "c": 2}), [4, 2])
        self.gone(house, house.size, (4, 0), 2)
        self.assertEqual(house.standing(), [0, 1])
        self.assertEqual((house.used(), house.greatest()), (6, 11))
        self.assertEqual(house.get((0, 0), 0), (1, 0))

    def test_caught_where_something_is_kept(self):
        house = shed()
        house.put((2, 2), 0, (4, 0))
        hands = {"a": (2, 2)}
        answer = self.refused(house, Kept, finish_caught, house, 2, hands)
        self.alike(answer.ways, [(2, 2), (4, 0)])
        house.put((0, 2), 0, (4, 0))
        self.alike(self.refused(house, Kept, finish_caught, house, 2, hands).ways, [(2, 2), (4, 0)])
        self.alike(self.refused(house, Kept, finish_caught, house, 2, {}).ways, [(4, 0)])
        self.alike(self.refused(house, Kept, finish_caught, house, 1, {"b": (2, 0)}).ways, [(2, 0), (4, 0)])
        house.put((0, 2), 0, None)
        self.alike(finish_caught(house, 2, {}), [4, 2])

    def test_the_list_is_a_new_one(self):
        house = shed()
        first = outcome(finish_caught, house, 2, {"a": (2, 0)})[1]["ways"]
        first.append(1)
        second = outcome(finish_caught, house, 2, {"a": (2, 0)})[1]["ways"]
        self.alike(second, [(2, 0)])

    def test_a_frame_without_rooms(self):
        house = House(1)
        house.begin(0)
        self.alike(finish_caught(house, 1, {}), [1])


class Shown(Case):
    def setUp(self):
        self.house = shed()
        self.hands = {"a": (2, 0), "b": 7, "c": (0, 0)}
        for way, k, value in (
            ((0, 0), 1, (2, 2)), ((2, 0), 0, (2, 2)), ((2, 0), 1, (0, 0)), ((2, 2), 0, (2, 0)), ((1, 0), 0, (0, 0)),
        ):
            self.house.put(way, k, value)
        self.first = ("hand", "a", (2, 0))
        self.other = ("room", (0, 0), 1, (2, 2))
        self.there = ("room", (2, 0), 0, (2, 2))
        self.back = ("room", (2, 2), 0, (2, 0))

    def told(self, way, thing, answer):
        before = (seen(self.house), copy.deepcopy(self.hands), repr(thing))
        self.assertIs(shows_kept(self.house, 2, self.hands, way, thing), answer, (way, thing))
        self.assertEqual((seen(self.house), self.hands, repr(thing)), before)

    def test_rows(self):
        first, other, there, back = self.first, self.other, self.there, self.back
        self.told((2, 0), [first], True)
        self.told((2, 2), [other], True)
        self.told((2, 2), [first, there], True)
        self.told((2, 0), [other, back], True)
        self.told((2, 0), [first, there, back], True)
        self.told((2, 2), [first, there, back, there], True)
        self.told((2, 2), [other] + [back, there] * 50, True)

    def test_a_row_to_another_room(self):
        first, other, there, back = self.first, self.other, self.there, self.back
        for way in ((2, 2), (4, 0), (0, 0), (1, 0), (3, 0), (2, 1), (5, 0), None, 2, "2:0", [2, 0], (2, 0, 0), (2,)):
            self.told(way, [first], False)
            self.told(way, [other, back], False)
            self.told(way, [first, there, back], False)

    def test_what_does_not_begin_outside(self):
        self.told((2, 2), [self.there], False)
        self.told((2, 0), [self.back], False)
        self.told((2, 2), [self.back, self.there], False)

    def test_what_does_not_hang_together(self):
        first, other, there, back = self.first, self.other, self.there, self.back
        for row in ([first, first], [other, first], [first, back], [there, back, first], [first, there, there, back]):
            self.told((2, 0), row, False)
        for row in ([other, other], [first, other], [other, there], [first, there, other]):
            self.told((2, 2), row, False)

    def test_what_no_cell_holds(self):
        for link in (
            ("hand", "b", (2, 0)), ("hand", "c", (2, 0)), ("hand", "d", (2, 0)), ("hand", "a", (2, 2)),
            ("room", (0, 0), 0, (2, 0)), ("room", (0, 0), 1, (2, 0)), ("room", (0, 0), 2, (2, 0)),
            ("room", (0, 0), -1, (2, 2)), ("room", (0, 2), 0, (2, 2)), ("room", (9, 9), 0, (2, 2)),
            ("room", (3, 0), 0, (2, 2)), ("hand", "a", (4, 0)), ("hand", "c", (0, 0)), ("room", (1, 0), 0, (0, 0)),
        ):
            for way in ((2, 0), (2, 2), (0, 0), (4, 0), link[-1]):
                self.told(way, [link], False)
        for link in (
            ("room", (2, 0), 1, (2, 2)), ("room", (2, 0), 0, (2, 0)), ("room", (2, 0), 2, (2, 2)),
            ("room", (2, 0), -2, (2, 2)), ("room", (2, 0), 1, (0, 0)), ("room", (2, 0), LONG, (2, 2)),
        ):
            for way in ((2, 0), (2, 2), (0, 0), link[-1]):
                self.told(way, [self.first, link], False)

    def test_no_row_goes_on_through_an_outside_room(self):
        self.told((2, 2), [self.first, ("room", (2, 0), 1, (0, 0)), self.other], False)

    def test_truths_are_no_numbers(self):
        house = House(9)
        house.begin(0)
        house.make(0, 2)
        house.make(1, 2)
        for way in ((0, 0), (1, 0)):
            for k in (0, 1):
                house.put(way, k, (1, 0))
        hands = {"a": (1, 0)}
        rows = [[("hand", "a", (1, 0))]] + [[("room", (0, 0), k, (1, 0))] for k in (0, 1)]
        rows += [[rows[0][0], ("room", (1, 0), k, (1, 0))] for k in (0, 1)]
        for row in rows:
            self.assertIs(shows_kept(house, 1, hands, (1, 0), row), True)
            for way in ((True, 0), (1, False), (True, False)):
                self.assertIs(shows_kept(house, 1, hands, way, row), False)
        for way in ((True, 0), (1, False), (True, False), [1, 0]):
            self.assertIs(shows_kept(house, 1, hands, (1, 0), [("hand", "a", way)]), False)
            for k in (0, 1):
                for row in (
                    [("room", (0, 0), k, way)], [("room", way, k, (1, 0))], [rows[0][0], ("room", way, k, (1, 0))],
                    [rows[0][0], ("room", (1, 0), k, way)],
                ):
                    self.assertIs(shows_kept(house, 1, hands, (1, 0), row), False)
        for k in (True, False, None, "0", [0], (0,)):
            for holder in ((0, 0), (1, 0)):
                row = [("room", holder, k, (1, 0))]
                self.assertIs(shows_kept(house, 1, hands, (1, 0), row), False)
                self.assertIs(shows_kept(house, 1, hands, (1, 0), [rows[0][0]] + row), False)

    def test_a_list_is_no_tuple_and_a_tuple_no_list(self):
        for row in ([self.first], [self.first, self.there, self.back]):
            self.told((2, 0), tuple(row), False)
            self.told((2, 0), [list(link) for link in row], False)
            self.told((2, 0), row[:-1] + [list(row[-1])], False)
            self.told((2, 0), [row], False)
            self.told([2, 0], row, False)
            self.told((2, 0), dict(enumerate(row)), False)
            self.told((2, 0), {link: link for link in row}, False)

    def test_links_of_other_forms(self):
        for link in (
            (), ("hand",), ("hand", "a"), ("hand", "a", (2, 0), 0), ("Hand", "a", (2, 0)), ("room", "a", (2, 0)),
            ("hand", "a", 0, (2, 0)), ("a", (2, 0)), ("hand", ("a",), (2, 0)), (0, "a", (2, 0)), (None, "a", (2, 0)),
            "hand", "han", None, 0, ["hand", "a", (2, 0)], {"hand": 1, "a": 2, (2, 0): 3}, ((2, 0),), (2, 0),
            ("room", (0, 0), 1), ("room", (0, 0), (2, 2)), ("hand", (0, 0), 1, (2, 2)), ("room", (0, 0), 1, (2, 2), 0),
            ("room", 0, 1, (2, 2)), ("room", None, 1, (2, 2)), ("hand", None, (2, 0)), ("hand", ["a"], (2, 0)),
        ):
            for way in ((2, 0), (2, 2)):
                self.told(way, [link], False)
                self.told(way, [self.first, link], False)
                self.told(way, [self.other, link], False)
                self.told(way, [link, self.back], False)

    def test_any_things(self):
        for thing in any_things() + [self.house, {}, [[]], [()]]:
            for way in ((2, 0), (2, 2), (0, 0)):
                self.told(way, thing, False)
                self.told(way, [thing], False)
                self.told(way, [self.first, thing], False)
            self.told(thing, [self.first], False)
            self.told(thing, thing, False)
            self.told(thing, [], False)

    def test_no_row_is_empty(self):
        self.told((2, 0), [], False)


class NothingShared(Case):
    def test_what_is_told_is_the_askers_own(self):
        house = shed()
        house.put((2, 0), 0, (2, 2))
        house.put((2, 2), 0, (4, 0))
        house.put((0, 0), 0, (2, 0))
        hands = {"a": (2, 0)}
        before = repr((seen(house), hands, ways_in(house, 2, hands), kept(house, 2, hands)))
        links = ways_in(house, 2, hands)
        links.clear()
        rows = kept(house, 2, hands)
        # No row is a part of another one's list.
        rows[(2, 0)].append("x")
        self.assertEqual([len(row) for row in rows.values()], [2, 2, 3])
        rows[(2, 2)].clear()
        self.assertEqual([len(row) for row in rows.values()], [2, 0, 3])
        rows.clear()
        self.assertEqual(repr((seen(house), hands, ways_in(house, 2, hands), kept(house, 2, hands))), before)

    def test_nothing_is_changed(self):
        for dice, house, ways, hands in thrown(60):
            before = repr((seen(house), hands))
            for frame in house.standing()[1:]:
                self.alike(ways_in(house, frame, hands), ways_in(house.twin(), frame, dict(hands)))
                rows = kept(house, frame, hands)
                self.alike(rows, kept(house.twin(), frame, dict(hands)))
                for way, row in rows.items():
                    shows_kept(house, frame, hands, way, row)
            self.assertEqual(repr((seen(house), hands)), before)


def inside(house, frame):
    """The ways of the inside rooms, and those of the outside ones, each in their order."""
    parts = ([], [])
    for number in house.standing():
        parts[frame not in house.row(number)].extend(house.rooms(number))
    return parts


def all_links(house, frame, hands):
    inner, outer = inside(house, frame)
    found = [("hand", name, hands[name]) for name in hands if hands[name] in inner]
    for way in outer:
        found += [("room", way, k, house.get(way, k)) for k in range(house.size(way)) if house.get(way, k) in inner]
    return found


def all_rows(house, frame, hands, longest):
    """All rows that lead somewhere, with the places of their links, shorter ones first and by these places."""
    inner, outer = inside(house, frame)
    rows = [([place], [link]) for place, link in enumerate(all_links(house, frame, hands))]
    told = list(rows)
    for turn in range(longest - 1):
        rows = [
            (places + [k], row + [("room", row[-1][-1], k, house.get(row[-1][-1], k))])
            for places, row in rows for k in range(house.size(row[-1][-1])) if house.get(row[-1][-1], k) in inner
        ]
        told += rows
    return told


class AgainstAllRows(Case):
    def test_ways_in_and_kept(self):
        deep = 0
        for dice, house, ways, hands in thrown(250, rooms=7, size=2):
            for frame in house.standing()[1:]:
                self.alike(ways_in(house, frame, hands), all_links(house, frame, hands))
                best = {}
                for places, row in all_rows(house, frame, hands, len(inside(house, frame)[0])):
                    best.setdefault(row[-1][-1], row)
                rows = kept(house, frame, hands)
                self.alike(rows, best)
                deep += max([len(row) for row in rows.values()], default=0) > 2
                for way, row in rows.items():
                    self.assertIs(shows_kept(house, frame, hands, way, row), True)
        self.assertGreater(deep, 10)

    def test_finish_caught(self):
        finished = caught = 0
        for dice, house, ways, hands in thrown(150):
            for frame in house.standing()[1:]:
                one, other = house.twin(), house.twin()
                ways_kept = list(kept(house, frame, hands))
                told = outcome(finish_caught, one, frame, hands)
                if ways_kept:
                    self.alike(told, ("Kept", {"ways": ways_kept}))
                    caught += 1
                else:
                    self.alike(told, ("told", other.finish(frame)))
                    finished += 1
                self.alike(seen(one), seen(other))
        self.assertGreater(min(finished, caught), 30)

    def test_shown_are_just_these_rows(self):
        true = 0
        for dice, house, ways, hands in thrown(50, rooms=4, frames=2, size=2):
            hands = dict(list(hands.items())[:1])
            for frame in house.standing()[1:]:
                rows = [row for places, row in all_rows(house, frame, hands, 2)]
                links = [("hand", name, way) for name in ("b", "a") for way in ways]
                links += [("room", holder, k, way) for holder in ways for k in (0, 1) for way in ways]
                for length in (1, 2):
                    for row in itertools.product(links, repeat=length):
                        answer = list(row) in rows
                        self.assertIs(shows_kept(house, frame, hands, row[-1][-1], list(row)), answer)
                        true += answer
        self.assertGreater(true, 30)


if __name__ == "__main__":
    unittest.main()
