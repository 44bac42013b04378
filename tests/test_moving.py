"""Points [61] to [63], and framerooms/moving.py in the interface; of [6] what it says of moving out."""

import copy
import itertools
import unittest

from framerooms.errors import Gone, NoHands
from framerooms.house import House
from framerooms.moving import finish_moved, is_moved
from framerooms.ways import kept
from tests.helper import LONG, Case, any_things, seen, thrown


def barn():
    """1 in the ground, 2 in 1, 3 in 2, 4 in 1.

    Rooms of 2 in the ground, 1 and 2 in 1, 2 and 1 in 2, 1 in 3, 1 in 4.
    """
    house = House(20)
    for frame in (0, 1, 2, 1):
        house.begin(frame)
    for frame, size in ((0, 2), (1, 1), (1, 2), (2, 2), (2, 1), (3, 1), (4, 1)):
        house.make(frame, size)
    return house


class FinishMoved(Case):
    def test_nothing_is_kept(self):
        house, other = barn(), barn()
        told = finish_moved(house, 2, {"b": 3, "a": (1, 0), "c": None})
        self.alike(told, ([3, 2], {}, {"b": 3, "a": (1, 0), "c": None}))
        other.finish(2)
        self.alike(seen(house), seen(other))

    def test_what_a_hand_keeps(self):
        house = barn()
        house.put((2, 0), 1, 5)
        told = finish_moved(house, 2, {"x": (2, 0), "y": (1, 0), "z": (2, 0)})
        self.alike(told, ([3, 2], {(2, 0): (1, 3)}, {"x": (1, 3), "y": (1, 0), "z": (1, 3)}))
        self.alike(house.picture(), (20, (
            (0, None, ((None, None),)), (1, 0, ((None,), (None, None), (None, 5))), (4, 1, ((None,),)),
        )))
        self.gone(house, house.size, (2, 0), 2)

    def test_one_behind_the_other_in_the_order_of_finding(self):
        house = barn()
        house.put((2, 0), 0, (3, 0))
        house.put((2, 0), 1, (2, 2))
        house.put((0, 0), 1, (2, 2))
        house.put((4, 0), 0, (2, 0))
        told = finish_moved(house, 2, {"q": (3, 0)})
        self.alike(told, (
            [3, 2], {(3, 0): (1, 3), (2, 2): (1, 4), (2, 0): (1, 5)}, {"q": (1, 3)},
        ))
        self.alike(house.picture(), (20, (
            (0, None, ((None, (1, 4)),)), (1, 0, ((None,), (None, None), (None,), (None,), ((1, 3), (1, 4)))),
            (4, 1, (((1, 5),),)),
        )))

    def test_to_the_frame_straight_around_only(self):
        house = barn()
        house.put((3, 0), 0, 9)
        told = finish_moved(house, 3, {"a": (3, 0)})
        self.alike(told, ([3], {(3, 0): (2, 3)}, {"a": (2, 3)}))
        told = finish_moved(house, 2, told[2])
        self.alike(told, ([2], {(2, 3): (1, 3)}, {"a": (1, 3)}))
        told = finish_moved(house, 1, told[2])
        self.alike(told, ([4, 1], {(1, 3): (0, 2)}, {"a": (0, 2)}))
        self.alike(house.picture(), (20, ((0, None, ((None, None), (9,))),)))
        for way, by in (((3, 0), 3), ((2, 3), 2), ((1, 3), 1)):
            self.gone(house, house.cells, way, by)

    def test_all_frames_within_are_left(self):
        house = barn()
        house.put((0, 0), 0, (3, 0))
        house.put((3, 0), 0, (4, 0))
        house.put((4, 0), 0, (1, 1))
        house.put((1, 1), 1, (3, 0))
        told = finish_moved(house, 1, {})
        self.alike(told, ([4, 3, 2, 1], {(3, 0): (0, 2), (4, 0): (0, 3), (1, 1): (0, 4)}, {}))
        self.alike(house.picture(), (20, ((0, None, (((0, 2), None), ((0, 3),), ((0, 4),), (None, (0, 2)))),)))

    def test_a_room_that_holds_itself(self):
        house = barn()
        house.put((2, 0), 0, (2, 0))
        house.put((2, 0), 1, (2, 0))
        finish_moved(house, 2, {"a": (2, 0)})
        self.alike(house.cells((1, 3)), [(1, 3), (1, 3)])

    def test_every_other_value_is_as_it_was(self):
        house = barn()
        house.begin(1)
        house.make(5, 1)
        house.finish(5)
        for k, value in ((0, (5, 0)), (1, (0, 0))):
            house.put((2, 0), k, value)
        house.put((1, 1), 0, (5, 0))
        house.put((1, 1), 1, LONG)
        house.put((0, 0), 0, (4, 0))
        told = finish_moved(house, 2, {"a": (2, 0), "b": (5, 0), "c": -LONG, "d": None, "e": (4, 0)})
        self.alike(told[2], {"a": (1, 3), "b": (5, 0), "c": -LONG, "d": None, "e": (4, 0)})
        self.alike(house.cells((1, 3)), [(5, 0), (0, 0)])
        self.alike(house.cells((1, 1)), [(5, 0), LONG])
        self.alike(house.cells((0, 0)), [(4, 0), None])

    def test_places_go_on_behind_it(self):
        house = barn()
        finish_moved(house, 2, {"a": (2, 0)})
        self.assertEqual(house.make(1, 1), (1, 5))
        self.assertEqual(house.rooms(1), [(1, 0), (1, 1), (1, 3), (1, 5)])


class NoMoreRoom(Case):
    def test_a_full_house(self):
        house = House(12)
        house.begin(0)
        house.begin(1)
        house.make(1, 1)
        ways = [house.make(2, 6), house.make(2, 5)]
        house.put(ways[0], 3, ways[1])
        self.assertEqual(house.left(), 0)
        told = finish_moved(house, 2, {"a": ways[0]})
        self.alike(told[1], {(2, 0): (1, 1), (2, 6): (1, 7)})
        self.assertEqual((house.used(), house.left(), house.greatest()), (12, 0, 12))
        told = finish_moved(house, 1, told[2])
        self.assertEqual((house.used(), house.left(), house.greatest()), (11, 1, 12))
        self.alike(house.cells(told[2]["a"]), [None, None, None, (0, 6), None, None])

    def test_a_thousand_rooms(self):
        house = House(1000)
        house.begin(0)
        ways = [house.make(1, 1) for turn in range(1000)]
        for way, inner in zip(ways, ways[1:] + ways[:1]):
            house.put(way, 0, inner)
        told = finish_moved(house, 1, {"a": ways[500]})
        order = ways[500:] + ways[:500]
        self.assertEqual(told[1], {way: (0, place) for place, way in enumerate(order)})
        self.assertEqual(list(told[1]), order)
        self.assertEqual(
            [house.get((0, place), 0) for place in range(1000)], [(0, place) for place in range(1, 1000)] + [(0, 0)]
        )
        self.assertEqual((house.used(), house.greatest()), (1000, 1000))

    def test_the_greatest_does_not_change(self):
        house = barn()
        self.assertEqual(house.greatest(), 10)
        finish_moved(house, 2, {"a": (2, 0)})
        self.assertEqual((house.used(), house.greatest()), (8, 10))
        house.make(0, 1)
        self.assertEqual((house.used(), house.greatest()), (9, 10))

    def test_frames_at_their_bound(self):
        house = House(100)
        for frame in range(100):
            house.begin(frame)
        house.make(100, 3)
        hands = {"a": (100, 0)}
        for frame in range(100, 0, -1):
            ended, moved, hands = finish_moved(house, frame, hands)
            self.alike((ended, moved), ([frame], {(frame, 0): (frame - 1, 0)}))
        self.alike(hands, {"a": (0, 0)})
        self.assertEqual((house.used(), house.greatest(), house.standing()), (3, 3, [0]))


class RefusedAhead(Case):
    def test_nothing_has_changed(self):
        house = barn()
        house.put((0, 0), 0, (2, 0))
        thing = {"a": (2, 0), "b": (2, 1)}
        self.assertIs(self.refused(house, NoHands, finish_moved, house, 2, thing).found, thing)
        house.finish(3)
        answer = self.refused(house, Gone, finish_moved, house, 3, thing)
        self.alike((answer.found, answer.by), (3, 3))
        self.alike(finish_moved(house, 2, {"a": (2, 0)})[0], [2])


class NothingShared(Case):
    def test_hands_are_not_changed_and_told_as_new_ones(self):
        house = barn()
        hands = {"b": (2, 0), "a": 1}
        told = finish_moved(house, 2, hands)
        self.alike(hands, {"b": (2, 0), "a": 1})
        self.assertIsNot(told[2], hands)
        before = repr(seen(house))
        for each in told:
            each.clear()
        self.assertEqual(repr(seen(house)), before)
        self.alike(hands, {"b": (2, 0), "a": 1})
        hands = {"a": 1}
        self.assertIsNot(finish_moved(house, 1, hands)[2], hands)

    def test_a_twin_stays(self):
        house = barn()
        house.put((0, 0), 0, (2, 0))
        other = house.twin()
        before = repr(seen(other))
        finish_moved(house, 2, {})
        self.assertEqual(repr(seen(other)), before)
        self.alike(finish_moved(other, 2, {}), finish_moved(barn_with_a_way(), 2, {}))


def barn_with_a_way():
    house = barn()
    house.put((0, 0), 0, (2, 0))
    return house


def walks(house, starts, steps):
    """What is found by each row of steps: the text of how one came there, and the value there."""
    told = [((start,), value) for start, value in starts]
    found = list(told)
    for turn in range(steps):
        told = [
            (steps_before + (k,), each)
            for steps_before, value in told if isinstance(value, tuple) and house.stands(value[0])
            for k, each in enumerate(house.cells(value))
        ]
        found += told
    return found


def starts(house, frames, hands):
    """What the hands hold, and the cells of all rooms in these frames, by the order of the rooms."""
    told = list(hands.items())
    for frame, many in frames:
        for place, way in enumerate(house.rooms(frame)[:many]):
            told += [((frame, place, k), value) for k, value in enumerate(house.cells(way))]
    return told


class Alike(Case):
    """Point 62, of houses that are thrown together."""

    def moved(self, house, frame, hands):
        other = house.twin()
        frames = [(number, len(house.rooms(number))) for number in house.standing() if frame not in house.row(number)]
        told = finish_moved(house, frame, hands)
        self.told(other, house, frame, hands, told)
        before = walks(other, starts(other, frames, hands), 4)
        self.reached(before, walks(house, starts(house, frames, told[2]), 4), told[1])
        self.assertIs(is_moved(other.picture(), house.picture(), frame, told[1]), True)
        return told

    def told(self, before, house, frame, hands, told):
        """What is told, and which rooms there are then."""
        ended, moved, held = told
        plain, rows = before.twin(), kept(before, frame, hands)
        self.alike(ended, plain.finish(frame))
        self.alike(list(moved), list(rows))
        self.alike(list(moved.values()), [plain.make(before.inside(frame), before.size(way)) for way in rows])
        self.alike(list(held), list(hands))
        for number in plain.standing():
            self.alike(house.rooms(number), plain.rooms(number))
        self.alike((house.standing(), house.used()), (plain.standing(), plain.used()))
        self.assertLessEqual(house.used(), before.used())
        self.assertEqual(house.greatest(), before.greatest())
        for way, fresh in moved.items():
            self.assertEqual(house.size(fresh), before.size(way))

    def reached(self, before, after, moved):
        """By the same steps the same values, but for moved ways, and to one room just where it was one."""
        self.assertEqual([steps for steps, value in before], [steps for steps, value in after])
        for (steps, value), (same, now) in zip(before, after):
            self.alike(now, moved.get(value, value), steps)
        self.assertEqual(len(set(moved.values())), len(moved))

    def test_thrown_houses(self):
        many = 0
        for dice, house, ways, hands in thrown(200, rooms=8):
            for frame in house.standing()[1:]:
                other = house.twin()
                inner = [way for way in ways if way[0] in house.standing() and frame in house.row(way[0])]
                ended, moved, held = self.moved(other, frame, hands)
                rooms = [way for number in other.standing() for way in other.rooms(number)]
                for value in [each for way in rooms for each in other.cells(way)] + list(held.values()):
                    self.assertNotIn(value, inner)
                many += len(moved) > 1
        self.assertGreater(many, 50)

    def test_frame_by_frame_to_the_ground(self):
        for dice, house, ways, hands in thrown(60, rooms=8):
            while house.standing() != [0]:
                hands = self.moved(house, dice.pick(house.standing()[1:]), hands)[2]

    def test_from_further_out_it_is_reached_by_as_many_steps(self):
        reached = 0
        for dice, house, ways, hands in thrown(200, rooms=8):
            for frame in house.standing()[1:]:
                other, around = house.twin(), house.inside(frame)
                if around != 0:
                    ended, moved, held = finish_moved(other, frame, hands)
                    before, after = kept(house, around, hands), kept(other, around, held)
                    self.assertEqual(
                        {moved.get(way, way): len(row) for way, row in before.items()},
                        {way: len(row) for way, row in after.items()},
                    )
                    reached += any([way in moved for way in before])
        self.assertGreater(reached, 20)


def ways_of(picture):
    """A dict from each frame of the picture to the ways of its rooms."""
    return {
        number: [(number, sum([len(room) for room in rooms[:k]])) for k in range(len(rooms))]
        for number, around, rooms in picture[1]
    }


def ended_of(picture, frame):
    ended = [frame]
    for number, around, rooms in picture[1]:
        ended += [number] if around in ended else []
    return ended


def behind(before, frame, moved):
    """The one picture that such a moving may leave, where the dict has the ways that it must have; else None."""
    ended = ended_of(before, frame)
    old = {way: room for number, around, rooms in before[1] for way, room in zip(ways_of(before)[number], rooms)}
    if not all([way in old and way[0] in ended for way in moved]):
        return None
    outer = [around for number, around, rooms in before[1] if number == frame][0]
    place = sum([len(room) for way, room in old.items() if way[0] == outer])
    order = sorted(moved, key=lambda way: moved[way])
    for way in order:
        if moved[way] != (outer, place):
            return None
        place += len(old[way])
    told = []
    for number, around, rooms in before[1]:
        if number not in ended:
            rooms = rooms + tuple([old[way] for way in order if number == outer])
            told.append((number, around, tuple([tuple([moved.get(each, each) for each in room]) for room in rooms])))
    left = [way for way in old if way[0] in ended]
    if any([each in left for number, around, rooms in told for room in rooms for each in room]):
        return None
    return (before[0], tuple(told))


class Shown(Case):
    def told(self, before, after, frame, moved, answer, why=None):
        kept_as = repr((before, after, frame, moved))
        self.assertIs(is_moved(before, after, frame, moved), answer, why)
        self.assertEqual(repr((before, after, frame, moved)), kept_as)

    def scene(self):
        """The barn with some ways, the house behind the moving out of 2, and the dict."""
        house = barn()
        for way, k, value in (
            ((0, 0), 0, (2, 0)), ((0, 0), 1, 4), ((1, 1), 1, (2, 0)), ((2, 0), 0, (3, 0)), ((2, 0), 1, (0, 0)),
            ((3, 0), 0, (2, 0)), ((2, 2), 0, (2, 0)), ((4, 0), 0, 6),
        ):
            house.put(way, k, value)
        other = house.twin()
        moved = finish_moved(other, 2, {})[1]
        self.alike(moved, {(2, 0): (1, 3), (3, 0): (1, 5)})
        return house, other, moved

    def test_a_moving(self):
        house, other, moved = self.scene()
        self.told(house.picture(), other.picture(), 2, moved, True)
        self.told(house.picture(), other.picture(), 2, dict(reversed(moved.items())), True)

    def test_nothing_moved(self):
        house = barn()
        other = house.twin()
        other.finish(2)
        self.told(house.picture(), other.picture(), 2, {}, True)

    def test_other_frames(self):
        house, other, moved = self.scene()
        for thing in [0, 1, 3, 4, 5, -1, -2, LONG, True, False, None, "2", [2], (2,), {2: 2}] + any_things():
            if repr(thing) != "2":
                self.told(house.picture(), other.picture(), thing, moved, False)
                self.told(house.picture(), house.picture(), thing, {}, False)

    def test_truths_as_the_frame(self):
        house = House(3)
        house.begin(0)
        house.make(1, 1)
        other = house.twin()
        moved = finish_moved(other, 1, {"a": (1, 0)})[1]
        self.told(house.picture(), other.picture(), 1, moved, True)
        self.told(house.picture(), other.picture(), True, moved, False)
        for key in ((True, 0), (1, False), (True, False)):
            self.told(house.picture(), other.picture(), 1, {key: (0, 0)}, False)
        for value in ((False, 0), (0, False), (False, False), [0, 0], None, 0, "0:0", ((0, 0),), (0, 0, 0)):
            self.told(house.picture(), other.picture(), 1, {(1, 0): value}, False)

    def test_a_frame_that_has_ended(self):
        house, other, moved = self.scene()
        self.told(other.picture(), other.picture(), 2, {}, False)
        self.told(other.picture(), other.picture(), 3, {}, False)
        self.told(other.picture(), house.picture(), 2, moved, False)

    def test_what_is_no_such_dict(self):
        house, other, moved = self.scene()
        pictures = (house.picture(), other.picture())
        for thing in any_things() + [list(moved.items()), tuple(moved), list(moved), house, [moved]]:
            self.told(*pictures, 2, thing, False)
        for key in (2, None, "2:2", (2,), (2, 1), (2, 3), (0, 0), (1, 0), (4, 0), (9, 0), (2, 2, 0), (1, 3), ((2, 2),)):
            self.told(*pictures, 2, {**moved, key: (1, 6)}, False)
            self.told(*pictures, 2, {key: (1, 3), (3, 0): (1, 5)}, False)
        values = (None, 3, (1, 1), (1, 4), (1, 0), (1, 6), (0, 0), (0, 3), (2, 0), (3, 0), [1, 3], "1:3", (), [], {})
        for value in values:
            self.told(*pictures, 2, {**moved, (2, 0): value}, False)
            self.told(*pictures, 2, {**moved, (2, 2): value}, False)

    def test_dicts_that_have_less_or_more(self):
        house, other, moved = self.scene()
        pictures = (house.picture(), other.picture())
        self.told(*pictures, 2, {}, False)
        for way in moved:
            self.told(*pictures, 2, {key: moved[key] for key in moved if key != way}, False)
            self.told(*pictures, 2, {**moved, (2, 2): moved[way]}, False)
            self.told(*pictures, 2, {key: moved[way] for key in moved}, False)
        self.told(*pictures, 2, {(2, 0): (1, 5), (3, 0): (1, 3)}, False)
        self.told(*pictures, 2, {(2, 0): (1, 3), (2, 2): (1, 5)}, False)

    def test_another_limit(self):
        for limit in (19, 21, 20):
            house, other, moved = self.scene()
            again = House(limit)
            again.begin(0)
            again.finish(again.begin(0))
            again.finish(again.begin(0))
            again.begin(1)
            for number, around, rooms in other.picture()[1]:
                for room in rooms:
                    again.make(number, len(room))
            for number, around, rooms in other.picture()[1]:
                for way, room in zip(again.rooms(number), rooms):
                    for k, value in enumerate(room):
                        again.put(way, k, value)
            self.told(house.picture(), again.picture(), 2, moved, limit == 20)

    def test_other_frames_behind_it(self):
        house, other, moved = self.scene()
        for deed in (lambda each: each.begin(0), lambda each: each.begin(1), lambda each: each.finish(4)):
            again = other.twin()
            deed(again)
            self.told(house.picture(), again.picture(), 2, moved, False)
        again = house.twin()
        again.begin(2)
        self.told(again.picture(), other.picture(), 2, moved, True)
        again.begin(4)
        self.told(again.picture(), other.picture(), 2, moved, False)

    def test_what_stays_within_another_frame(self):
        for around in (0, 1):
            house, other = House(9), House(9)
            for frame in (0, 0, 1):
                house.begin(frame)
            for frame in (0, 0, around):
                other.begin(frame)
            other.finish(2)
            self.told(house.picture(), other.picture(), 2, {}, around == 1)

    def test_a_frame_within_that_still_stands(self):
        house = House(9)
        house.begin(0)
        house.begin(1)
        other = house.twin()
        other.finish(2)
        self.told(house.picture(), other.picture(), 1, {}, False)
        self.told(house.picture(), other.picture(), 2, {}, True)
        other.finish(1)
        self.told(house.picture(), other.picture(), 1, {}, True)
        self.told(house.picture(), other.picture(), 2, {}, False)

    def test_another_room_behind_it(self):
        house, other, moved = self.scene()
        for frame in (0, 1, 4):
            for size in (1, 2):
                again = other.twin()
                way = again.make(frame, size)
                self.told(house.picture(), again.picture(), 2, moved, False)
                self.told(house.picture(), again.picture(), 2, {**moved, (2, 2): way}, False)
                again.put(way, 0, (1, 3))
                self.told(house.picture(), again.picture(), 2, moved, False)
                self.told(house.picture(), again.picture(), 2, {**moved, (2, 2): way}, (frame, size) == (1, 1))

    def test_each_cell_with_each_value(self):
        house, other, moved = self.scene()
        values = [None, 0, 4, 6, (0, 0), (1, 0), (1, 1), (2, 0), (2, 2), (3, 0), (4, 0), (1, 3), (1, 5)]
        for frame in other.standing():
            for way in other.rooms(frame):
                for k, held in enumerate(other.cells(way)):
                    for value in values:
                        again = other.twin()
                        again.put(way, k, value)
                        self.told(house.picture(), again.picture(), 2, moved, value == held, (way, k, value))

    def test_each_cell_ahead_with_each_value(self):
        house, other, moved = self.scene()
        values = [None, 0, 4, 6, (0, 0), (1, 0), (1, 1), (2, 0), (2, 2), (3, 0), (4, 0)]
        for frame in house.standing():
            for way in house.rooms(frame):
                for k, held in enumerate(house.cells(way)):
                    for value in values:
                        again = house.twin()
                        again.put(way, k, value)
                        # What isn't moved is not looked at.
                        answer = value == held or way == (2, 2)
                        self.told(again.picture(), other.picture(), 2, moved, answer, (way, k, value))

    def test_a_way_of_what_ended_may_not_stay(self):
        house = barn()
        house.put((0, 0), 0, (2, 0))
        other = house.twin()
        other.finish(2)
        self.told(house.picture(), other.picture(), 2, {}, False)
        other.put((0, 0), 0, None)
        self.told(house.picture(), other.picture(), 2, {}, False)
        house.put((0, 0), 0, None)
        self.told(house.picture(), other.picture(), 2, {}, True)

    def test_a_way_that_was_gone_ahead_may_stay(self):
        house = barn()
        house.put((0, 0), 0, (3, 0))
        house.finish(3)
        other = house.twin()
        moved = finish_moved(other, 2, {"a": (2, 0)})[1]
        self.told(house.picture(), other.picture(), 2, moved, True)
        self.assertEqual(other.get((0, 0), 0), (3, 0))

    def test_which_rooms_are_moved_is_not_looked_at(self):
        """Also what nobody keeps, in whatever order."""
        house, other, moved = self.scene()
        for order in itertools.permutations([(2, 0), (2, 2), (3, 0)]):
            after, thing = carried(house, 2, order)
            self.told(house.picture(), after.picture(), 2, thing, True)
        # Without one that has to be led on, a way of it would stay.
        for order in itertools.permutations([(2, 0), (2, 2), (3, 0)], 2):
            after, thing = carried(house, 2, order)
            self.told(house.picture(), after.picture(), 2, thing, (2, 2) not in order)
        for way in ((2, 0), (2, 2), (3, 0)):
            after, thing = carried(house, 2, [way])
            self.told(house.picture(), after.picture(), 2, thing, False)

    def test_new_rooms_of_another_size(self):
        house = barn()
        for size in range(1, 7):
            other = house.twin()
            other.finish(2)
            way = other.make(1, size)
            for key, elder in (((2, 0), 2), ((2, 2), 1), ((3, 0), 1)):
                self.told(house.picture(), other.picture(), 2, {key: way}, size == elder)

    def test_new_rooms_in_another_frame(self):
        house = barn()
        for frame in (0, 1, 4):
            other = house.twin()
            other.finish(2)
            way = other.make(frame, 2)
            self.told(house.picture(), other.picture(), 2, {(2, 0): way}, frame == 1)

    def test_elder_rooms_of_another_size(self):
        """The same cells in all, but cut otherwise: other houses, whose frames are alike."""
        for sizes in itertools.product((1, 2, 3), repeat=3):
            house, other = House(20), House(20)
            for each, cut in ((house, (2, 1)), (other, sizes)):
                each.begin(0)
                for size in cut:
                    each.make(0, size)
            house.make(1, 1)
            other.finish(1)
            fresh = other.rooms(0)[-1]
            self.told(house.picture(), other.picture(), 1, {(1, 0): fresh}, sizes == (2, 1, 1))
            self.told(house.picture(), other.picture(), 1, {(1, 0): (0, 3)}, sizes == (2, 1, 1))

    def test_elder_rooms_that_lack(self):
        house = barn()
        for many in (0, 1, 2):
            other = House(20)
            for frame in (0, 1, 2, 1):
                other.begin(frame)
            other.make(0, 2)
            for size in (1, 2)[:many]:
                other.make(1, size)
            other.make(4, 1)
            other.finish(2)
            self.told(house.picture(), other.picture(), 2, {}, many == 2)
            way = other.make(1, 2)
            self.told(house.picture(), other.picture(), 2, {(2, 0): way}, many == 2)

    def test_asked_again_it_is_the_same(self):
        house, other, moved = self.scene()
        for turn in range(2):
            self.told(house.picture(), other.picture(), 2, copy.deepcopy(moved), True)


def carried(house, frame, ways):
    """The house behind a moving of just these rooms, by its own deeds, and the dict."""
    other = house.twin()
    other.finish(frame)
    moved = {way: other.make(house.inside(frame), house.size(way)) for way in ways}
    for way, fresh in moved.items():
        for k, value in enumerate(house.cells(way)):
            other.put(fresh, k, value)
    for number in other.standing():
        for way in other.rooms(number):
            for k, value in enumerate(other.cells(way)):
                other.put(way, k, moved.get(value, value))
    return other, moved


class AgainstTheOnePicture(Case):
    def test_all_small_ones(self):
        """Each house behind it with each dict: just the one picture that the dict leaves is shown."""
        true = 0
        for first, second in itertools.product([None, (1, 0), (1, 1), (0, 0)], repeat=2):
            house = House(9)
            house.begin(0)
            house.make(0, 1)
            for turn in range(2):
                house.make(1, 1)
            house.put((0, 0), 0, first)
            house.put((1, 0), 0, second)
            before = house.picture()
            pairs = [(1, 0), (1, 1), (0, 0), (0, 1), (0, 2), (1, 2)]
            dicts = [{}] + [{a: b} for a in pairs for b in pairs]
            dicts += [{a: b, c: d} for a, c in itertools.permutations(pairs[:3], 2) for b in pairs for d in pairs]
            left = [behind(before, 1, moved) for moved in dicts]
            for after in self.houses(house):
                for moved, picture in zip(dicts, left):
                    answer = picture == after
                    self.assertIs(is_moved(before, after, 1, moved), answer, (before, after, moved))
                    true += answer
        self.assertGreater(true, 20)

    def houses(self, house):
        """The pictures of houses without the frame, with up to two rooms more and whatever in their cells."""
        told = []
        for more in range(3):
            values = [None, (1, 0), (1, 1), (0, 0), (0, 1), (0, 2)][:4 + more]
            for cells in itertools.product(values, repeat=1 + more):
                other = house.twin()
                other.finish(1)
                for turn in range(more):
                    other.make(0, 1)
                for way, value in zip(other.rooms(0), cells):
                    other.put(way, 0, value)
                told.append(other.picture())
        return told

    def test_thrown_ones(self):
        answers = {True: 0, False: 0}
        for dice, house, ways, hands in thrown(300, rooms=8):
            for frame in house.standing()[1:]:
                inner = [way for way in ways if house.stands(way[0]) and frame in house.row(way[0])]
                order = []
                for turn in range(dice.below(len(inner) + 1)):
                    order.append(dice.pick([way for way in inner if way not in order]))
                order = dice.pick([order, list(kept(house, frame, {})), inner])
                other, moved = carried(house, frame, order)
                if dice.below(4) == 0 and other.rooms(0):
                    other.put(dice.pick(other.rooms(0)), 0, dice.pick(ways))
                answer = behind(house.picture(), frame, moved) == other.picture()
                self.assertIs(is_moved(house.picture(), other.picture(), frame, moved), answer)
                answers[answer] += 1
        self.assertGreater(min(answers.values()), 50)


if __name__ == "__main__":
    unittest.main()
