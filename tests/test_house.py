"""Points [31] to [35], and framerooms/house.py in the interface; of [6] what it says of rooms."""

import unittest

from framerooms.errors import Full, Gone, Ground, NoCell, NoFrame, NoNumber, NoValue, NoWay, TooMany
from framerooms.frames import Frames
from framerooms.house import House
from tests.helper import LONG, Case, Dice, any_things, is_int, outcome, seen


def block():
    """1 in the ground, 2 in 1, 3 in the ground; rooms of 2 and 1 in the ground, 3 in 1, 1 and 2 in 2, 1 in 3."""
    house = House(20)
    for frame in (0, 1, 0):
        house.begin(frame)
    for frame, size in ((0, 2), (1, 3), (0, 1), (2, 1), (2, 2), (3, 1)):
        house.make(frame, size)
    return house


def no_whole(low, high):
    """Things that are no whole numbers from low to high, new ones each time."""
    things = [low - 1, low - 2, high + 1, high + 2, -high, LONG, -LONG, True, False] + any_things()
    return [thing for thing in things if not (is_int(thing) and low <= thing <= high)]


def no_ways(house, ways):
    """Things that are no ways that this house has given, new ones each time."""
    things = [(0, 1), (0, 3), (1, 1), (1, 3), (4, 0), (100, 0), (101, 0), (0, LONG), (LONG, 0), (-1, 0), (0, -1)]
    things += [list(way) for way in ways] + [way + (0,) for way in ways] + [(way,) for way in ways]
    things += [way[:1] for way in ways] + ["%d:%d" % way for way in ways] + [{way: 0} for way in ways]
    things += [(False, 0), (0, False), (True, 0), (1, False), (False, 2), (False, False), (True, False)]
    things += [([0], 0), (None, 0), (0, None), ("0", "0"), house] + any_things()
    return [thing for thing in things if repr(thing) not in [repr(way) for way in ways]]


class OfItsLimit(Case):
    def test_limits(self):
        for limit in (1, 2, 6, 500, 999, 1000):
            house = House(limit)
            self.alike(house.limit(), limit)
            self.alike(house.left(), limit)
            self.alike(house.used(), 0)
            self.alike(house.greatest(), 0)
            self.alike(house.rooms(0), [])
            self.alike(house.picture(), (limit, ((0, None, ()),)))

    def test_what_is_no_limit_is_refused(self):
        for thing in no_whole(1, 1000):
            self.alike(outcome(House, thing)[0], "NoNumber")
            with self.assertRaises(NoNumber) as caught:
                House(thing)
            self.assertIs(type(caught.exception), NoNumber)
            self.assertIs(caught.exception.found, thing)

    def test_it_is_frames(self):
        self.assertTrue(issubclass(House, Frames))
        self.assertIsInstance(House(1), Frames)


class AsFrames(Case):
    def test_it_does_all_that_frames_do(self):
        deeds = ["begin", "begin", "finish", "inside", "row", "within", "ended_by", "stands"]
        for seed in range(30):
            dice, house, frames = Dice(seed), House(1 + seed), Frames()
            for turn in range(40):
                deed = dice.pick(deeds)
                number = dice.pick([0, 0, 1, 2, 3, 4, 5, 6, 7, 8, -1, True, None, "1", [0], (0,)])
                if deed == "finish" and dice.below(2):
                    continue
                self.alike(outcome(getattr(house, deed), number), outcome(getattr(frames, deed), number))
                self.alike((house.standing(), house.begun()), (frames.standing(), frames.begun()))

    def test_a_hundred_frames_and_one_more(self):
        house = House(1000)
        for number in range(1, 101):
            self.assertEqual(house.begin(number // 2), number)
            self.assertEqual(house.make(number, 1), (number, 0))
        for frame in (0, 50, 100):
            self.assertEqual(self.refused(house, TooMany, house.begin, frame).many, 101)
        self.assertEqual(house.used(), 100)
        self.assertEqual(house.make(100, 6), (100, 1))

    def test_the_ground_is_not_ended(self):
        house = block()
        self.refused(house, Ground, house.finish, 0)


class Make(Case):
    def test_places_are_the_cells_made_ahead_in_the_frame(self):
        house = House(1000)
        house.begin(0)
        house.begin(1)
        places = {0: 0, 1: 0, 2: 0}
        for turn in range(60):
            frame, size = (turn * 7) % 3, 1 + (turn * 5) % 6
            self.alike(house.make(frame, size), (frame, places[frame]))
            places[frame] += size
        self.assertEqual(house.used(), sum(places.values()))

    def test_each_cell_holds_none_at_first(self):
        house = House(100)
        for size in range(1, 7):
            way = house.make(0, size)
            self.alike(house.cells(way), [None] * size)
            self.alike(house.size(way), size)
            for k in range(size):
                self.assertIsNone(house.get(way, k))

    def test_a_frame_begun_later_begins_at_nought(self):
        house = House(6)
        ways = []
        for number in range(1, 30):
            house.begin(0)
            ways.extend([house.make(number, 4), house.make(number, 2)])
            house.finish(number)
        self.assertEqual(ways, [(number, place) for number in range(1, 30) for place in (0, 4)])

    def test_no_way_is_given_twice(self):
        house, ways = House(12), []
        dice = Dice(3)
        for turn in range(400):
            if dice.below(4) == 0 and house.begun() < 100:
                house.begin(dice.pick(house.standing()))
            if dice.below(3) == 0 and house.standing() != [0]:
                house.finish(dice.pick(house.standing()[1:]))
            # Not in the ground, which would be full for ever.
            told = outcome(house.make, dice.pick(house.standing()[1:] + [None]), 1 + dice.below(3))
            if told[0] == "told":
                ways.append(told[1])
        self.assertGreater(len(ways), 60)
        self.assertEqual(len(set(ways)), len(ways))

    def test_what_is_no_frame_is_refused(self):
        for house in (House(3), block()):
            for thing in no_whole(0, house.begun()):
                self.assertIs(self.refused(house, NoFrame, house.make, thing, 1).found, thing)

    def test_an_ended_frame_is_refused(self):
        house = block()
        house.finish(2)
        self.gone(house, house.make, 2, 2, 1)
        house.finish(1)
        self.gone(house, house.make, 1, 1, 1)
        self.gone(house, house.make, 2, 2, 1)
        house.begin(3)
        house.finish(3)
        self.gone(house, house.make, 4, 3, 6)

    def test_what_is_no_size_is_refused(self):
        for house in (House(1), House(1000), block()):
            for thing in no_whole(1, 6):
                self.assertIs(self.refused(house, NoNumber, house.make, 0, thing).found, thing)

    def test_the_order_of_refusals(self):
        house = House(2)
        house.begin(0)
        house.finish(1)
        house.make(0, 2)
        for size in (0, 7, True, None, "1", [1], 3, 1):
            for thing in (2, -1, True, None, [0], "0"):
                self.assertIs(self.refused(house, NoFrame, house.make, thing, size).found, thing)
            self.gone(house, house.make, 1, 1, size)
        for size in (0, 7, True, None, "1", [1], -1):
            self.assertIs(self.refused(house, NoNumber, house.make, 0, size).found, size)
        for size in (1, 2, 6):
            self.refused(house, Full, house.make, 0, size)


class ToTheLastCell(Case):
    def full(self, house, frame, size, spare):
        answer = self.refused(house, Full, house.make, frame, size)
        self.alike((answer.need, answer.spare), (size, spare))

    def test_sizes_beside_what_is_left(self):
        for limit in range(1, 9):
            for size in range(1, 7):
                house = House(limit)
                if size > limit:
                    self.full(house, 0, size, limit)
                else:
                    self.assertEqual(house.make(0, size), (0, 0))
                    self.assertEqual(house.left(), limit - size)

    def test_filled_one_by_one(self):
        house = House(7)
        for place in range(7):
            for size in range(8 - place, 7):
                self.full(house, 0, size, 7 - place)
            self.assertEqual(house.make(0, 1), (0, place))
        for size in range(1, 7):
            self.full(house, 0, size, 0)
        self.assertEqual((house.used(), house.left(), house.greatest()), (7, 0, 7))

    def test_a_thousand_cells(self):
        house = House(1000)
        house.begin(0)
        for turn in range(166):
            self.assertEqual(house.make(turn % 2, 6), (turn % 2, turn // 2 * 6))
        self.full(house, 0, 6, 4)
        self.full(house, 1, 5, 4)
        self.assertEqual(house.make(1, 4), (1, 498))
        self.full(house, 0, 1, 0)
        self.assertEqual((house.used(), house.left(), house.greatest()), (1000, 0, 1000))
        house.finish(1)
        self.assertEqual((house.used(), house.left(), house.greatest()), (498, 502, 1000))
        self.assertEqual(house.make(0, 6), (0, 498))

    def test_a_thousand_rooms(self):
        house = House(1000)
        self.assertEqual([house.make(0, 1) for turn in range(1000)], [(0, place) for place in range(1000)])
        self.full(house, 0, 1, 0)
        self.assertEqual(len(house.rooms(0)), 1000)

    def test_what_ends_leaves_its_cells(self):
        house = House(5)
        house.begin(0)
        house.begin(1)
        house.make(1, 2)
        house.make(2, 3)
        self.full(house, 0, 1, 0)
        house.finish(2)
        self.full(house, 0, 4, 3)
        self.assertEqual(house.make(1, 3), (1, 2))
        self.full(house, 1, 2, 0)
        house.finish(1)
        self.assertEqual(house.make(0, 5), (0, 0))
        self.full(house, 0, 1, 0)


class Touch(Case):
    def test_what_is_put_is_told(self):
        house = block()
        for value in (None, 0, 1, -1, 5, LONG, -LONG, 10 ** 30 - 1, (0, 0), (1, 0), (2, 1), (3, 0)):
            for way in ((0, 0), (0, 2), (1, 0), (2, 0), (2, 1), (3, 0)):
                for k in range(house.size(way)):
                    self.assertIsNone(house.put(way, k, value))
                    self.alike(house.get(way, k), value)

    def test_only_that_cell_changes(self):
        house = block()
        self.assertIsNone(house.put((1, 0), 1, 4))
        self.alike(house.cells((1, 0)), [None, 4, None])
        house.put((1, 0), 2, (1, 0))
        self.alike(house.cells((1, 0)), [None, 4, (1, 0)])
        house.put((1, 0), 1, None)
        self.alike(house.cells((1, 0)), [None, None, (1, 0)])
        for way in ((0, 0), (0, 2), (2, 0), (2, 1), (3, 0)):
            self.assertEqual(house.cells(way), [None] * house.size(way))
        self.assertEqual((house.used(), house.greatest()), (10, 10))

    def test_sizes(self):
        house = block()
        sizes = [house.size(way) for way in ((0, 0), (0, 2), (1, 0), (2, 0), (2, 1), (3, 0))]
        self.alike(sizes, [2, 1, 3, 1, 2, 1])

    def test_a_way_stays_when_its_room_goes(self):
        house = block()
        house.put((0, 0), 0, (2, 1))
        house.put((0, 0), 1, (1, 0))
        house.put((3, 0), 0, (2, 1))
        house.finish(1)
        self.alike(house.cells((0, 0)), [(2, 1), (1, 0)])
        self.alike(house.get((3, 0), 0), (2, 1))
        self.gone(house, house.cells, (2, 1), 1)

    def test_the_way_of_a_room_that_is_gone_is_put(self):
        house = block()
        house.finish(1)
        for k, value in ((0, (2, 1)), (1, (1, 0)), (0, (2, 0))):
            house.put((0, 0), k, value)
            self.alike(house.get((0, 0), k), value)

    def test_what_was_told_is_put_again(self):
        house = block()
        house.put((0, 0), 0, house.rooms(2)[1])
        house.put((0, 0), 1, house.get((0, 0), 0))
        self.alike(house.cells((0, 0)), [(2, 1), (2, 1)])


class TouchRefused(Case):
    def deeds(self, house):
        return (
            (house.get, (0,)), (house.put, (0, None)), (house.size, ()), (house.cells, ()),
            # What would be refused later doesn't go ahead.
            (house.get, (9,)), (house.put, (True, None)), (house.put, (0, True)), (house.put, ([0], "a")),
        )

    def test_what_is_no_way_is_refused(self):
        ways = [(0, 0), (0, 2), (1, 0), (2, 0), (2, 1), (3, 0)]
        house = block()
        for thing in no_ways(house, ways):
            for deed, more in self.deeds(house):
                self.assertIs(self.refused(house, NoWay, deed, thing, *more).found, thing)

    def test_what_was_no_way_is_none_behind_the_end(self):
        house = block()
        house.finish(1)
        for thing in ((1, 1), (1, 3), (2, 2), (2, 3), (True, 0), (1, False), [1, 0]):
            for deed, more in self.deeds(house):
                self.assertIs(self.refused(house, NoWay, deed, thing, *more).found, thing)

    def test_a_way_of_another_house_is_none(self):
        first, second = block(), House(20)
        for way in ((0, 0), (1, 0), (2, 1)):
            self.assertIs(self.refused(second, NoWay, second.size, way).found, way)
        second.make(0, 1)
        self.assertEqual(second.size((0, 0)), 1)
        self.assertEqual(first.size((0, 0)), 2)

    def test_a_room_that_is_gone_is_refused(self):
        house = block()
        house.begin(2)
        house.make(4, 1)
        house.finish(4)
        house.finish(1)
        for way, by in (((1, 0), 1), ((2, 0), 1), ((2, 1), 1), ((4, 0), 4)):
            for deed, more in self.deeds(house):
                self.gone(house, deed, way, by, *more)
        for way in ((0, 0), (0, 2), (3, 0)):
            self.assertIsNone(house.get(way, 0))
        house.finish(3)
        self.gone(house, house.size, (3, 0), 3)
        self.gone(house, house.size, (2, 1), 1)

    def test_what_is_no_cell_is_refused(self):
        house = block()
        for way in house.rooms(0) + house.rooms(1) + house.rooms(2):
            for thing in no_whole(0, house.size(way) - 1):
                self.assertIs(self.refused(house, NoCell, house.get, way, thing).found, thing)
                for value in (None, 3, True, "a", (0, 1)):
                    self.assertIs(self.refused(house, NoCell, house.put, way, thing, value).found, thing)

    def test_what_is_no_value_is_refused(self):
        ways = [(0, 0), (0, 2), (1, 0), (2, 0), (2, 1), (3, 0)]
        house = block()
        house.put((1, 0), 1, 8)
        for thing in no_ways(house, ways):
            if thing is not None and not is_int(thing):
                self.assertIs(self.refused(house, NoValue, house.put, (1, 0), 1, thing).found, thing)
        self.assertEqual(house.get((1, 0), 1), 8)

    def test_a_way_that_is_given_later_is_a_value_then(self):
        house = House(5)
        way = house.make(0, 1)
        self.refused(house, NoValue, house.put, way, 0, (0, 1))
        house.make(0, 1)
        house.put(way, 0, (0, 1))
        self.assertEqual(house.get(way, 0), (0, 1))

    def test_refusals_hold_the_very_thing(self):
        house = block()
        for deed, more in ((house.make, (1,)), (house.rooms, ()), (house.size, ()), (house.cells, ())):
            thing = [[1], {"a": [2]}]
            found = outcome(deed, thing, *more)[1]["found"]
            self.assertIs(found, thing)
        thing = [[1], {"a": [2]}]
        for told in (
            outcome(house.make, 0, thing), outcome(house.get, (0, 0), thing), outcome(house.put, (0, 0), thing, 0),
            outcome(house.put, (0, 0), 0, thing), outcome(House, thing), outcome(house.get, thing, 0),
        ):
            self.assertIs(told[1]["found"], thing)
            self.assertEqual(thing, [[1], {"a": [2]}])


class Finish(Case):
    def test_all_rooms_of_what_ends_go_and_no_other(self):
        house = block()
        for frame, way in ((0, (0, 0)), (3, (3, 0)), (1, (1, 0))):
            house.put(way, 0, 10 + frame)
        self.alike(house.finish(2), [2])
        self.gone(house, house.cells, (2, 0), 2)
        self.assertEqual(house.cells((1, 0)), [11, None, None])
        house.begin(1)
        self.alike(house.finish(1), [4, 1])
        self.gone(house, house.cells, (1, 0), 1)
        self.gone(house, house.cells, (2, 0), 2)
        self.assertEqual(house.picture(), (20, ((0, None, ((10, None), (None,))), (3, 0, ((13,),)))))

    def test_with_another_one_around(self):
        house = block()
        self.alike(house.finish(1), [2, 1])
        for way in ((1, 0), (2, 0), (2, 1)):
            self.gone(house, house.size, way, 1)
        self.assertEqual(house.used(), 4)

    def test_refusals(self):
        house = block()
        for thing in no_whole(0, 3):
            self.assertIs(self.refused(house, NoFrame, house.finish, thing).found, thing)
        house.finish(1)
        self.gone(house, house.finish, 2, 1)
        self.refused(house, Ground, house.finish, 0)


class Used(Case):
    def test_behind_each_deed(self):
        house = House(15)
        steps = [
            (lambda: house.begin(0), 0, 0), (lambda: house.make(1, 4), 4, 4), (lambda: house.make(0, 2), 6, 6),
            (lambda: house.begin(1), 6, 6), (lambda: house.make(2, 5), 11, 11), (lambda: house.finish(2), 6, 11),
            (lambda: house.make(1, 3), 9, 11), (lambda: house.put((1, 0), 0, 5), 9, 11),
            (lambda: house.make(0, 6), 15, 15), (lambda: house.finish(1), 8, 15), (lambda: house.make(0, 6), 14, 15),
            (lambda: house.begin(0), 14, 15), (lambda: house.make(3, 1), 15, 15), (lambda: house.finish(3), 14, 15),
        ]
        for deed, used, greatest in steps:
            deed()
            self.alike((house.used(), house.left(), house.greatest()), (used, 15 - used, greatest))
            self.alike(house.limit(), 15)

    def test_what_is_refused_is_not_used(self):
        house = House(5)
        house.make(0, 3)
        for frame, size in ((0, 3), (0, 6), (0, 7), (1, 1), (0, True)):
            self.assertNotEqual(outcome(house.make, frame, size)[0], "told")
        self.assertEqual((house.used(), house.left(), house.greatest()), (3, 2, 3))


class Rooms(Case):
    def test_in_the_order_in_which_they_were_made(self):
        house = block()
        self.alike([house.rooms(frame) for frame in range(4)], [[(0, 0), (0, 2)], [(1, 0)], [(2, 0), (2, 1)], [(3, 0)]])
        house.make(2, 1)
        house.make(0, 1)
        self.alike(house.rooms(2), [(2, 0), (2, 1), (2, 3)])
        self.alike(house.rooms(0), [(0, 0), (0, 2), (0, 3)])
        house.begin(0)
        self.alike(house.rooms(4), [])

    def test_refusals(self):
        house = block()
        for thing in no_whole(0, 3):
            self.assertIs(self.refused(house, NoFrame, house.rooms, thing).found, thing)
        house.finish(1)
        self.gone(house, house.rooms, 1, 1)
        self.gone(house, house.rooms, 2, 1)
        self.alike(house.rooms(0), [(0, 0), (0, 2)])


class Picture(Case):
    def test_frames_rising_rooms_in_their_order(self):
        house = block()
        house.put((2, 1), 1, (0, 2))
        house.put((0, 2), 0, -3)
        self.alike(house.picture(), (20, (
            (0, None, ((None, None), (-3,))), (1, 0, ((None, None, None),)), (2, 1, ((None,), (None, (0, 2)))),
            (3, 0, ((None,),)),
        )))

    def test_what_has_ended_is_not_in_it(self):
        house = block()
        house.put((3, 0), 0, (2, 0))
        house.begin(3)
        house.finish(1)
        self.alike(house.picture(), (20, ((0, None, ((None, None), (None,))), (3, 0, (((2, 0),),)), (4, 3, ()))))

    def test_an_elder_picture_stays(self):
        house = block()
        told = house.picture()
        kept = repr(told)
        house.put((0, 0), 0, 9)
        house.make(0, 1)
        house.finish(1)
        self.assertEqual(repr(told), kept)
        self.assertNotEqual(house.picture(), told)


class Twin(Case):
    def test_it_tells_the_same_also_of_what_has_ended(self):
        house = block()
        house.put((0, 0), 1, (2, 1))
        house.make(2, 6)
        house.finish(2)
        house.begin(1)
        house.finish(1)
        house.begin(0)
        house.make(5, 2)
        other = house.twin()
        self.assertIs(type(other), House)
        self.assertIsNot(other, house)
        self.alike(seen(other), seen(house))
        self.alike(seen(other.twin()), seen(house))
        self.assertEqual(other.greatest(), 16)
        self.gone(other, other.size, (2, 1), 2)
        self.gone(other, other.size, (1, 0), 1)

    def test_each_goes_its_own_way(self):
        deeds = [
            lambda house: house.begin(0), lambda house: house.make(0, 3), lambda house: house.make(3, 1),
            lambda house: house.put((0, 0), 1, 77), lambda house: house.put((3, 0), 0, (0, 0)),
            lambda house: house.finish(3), lambda house: house.finish(1),
        ]
        for deed in deeds:
            house = block()
            house.finish(2)
            other = house.twin()
            before = repr(seen(house))
            deed(other)
            self.assertEqual(repr(seen(house)), before)
            other = house.twin()
            deed(house)
            self.assertEqual(repr(seen(other)), before)
            self.assertEqual(deed(other), deed(block_without_two()))

    def test_at_first(self):
        self.alike(seen(House(9).twin()), seen(House(9)))


def block_without_two():
    house = block()
    house.finish(2)
    return house


class NothingShared(Case):
    def test_lists_are_the_askers_own(self):
        house = block()
        house.put((1, 0), 0, 4)
        before = repr(seen(house))
        for ask in (
            lambda: house.cells((1, 0)), lambda: house.cells((0, 0)), lambda: house.rooms(0), lambda: house.rooms(2),
            lambda: house.standing(), lambda: house.row(2), lambda: house.within(0),
        ):
            told = ask()
            kept = list(told)
            told.append(99)
            told[0] = "a"
            self.assertEqual(ask(), kept)
            del told[:]
            self.assertEqual(ask(), kept)
            self.assertEqual(repr(seen(house)), before)

    def test_the_list_of_what_ends_is_the_askers_own(self):
        house = block()
        told = house.finish(1)
        before = repr(seen(house))
        told[:] = [3, 0]
        self.assertEqual(repr(seen(house)), before)

    def test_two_houses_have_nothing_in_common(self):
        first, second = House(9), House(9)
        before = repr(seen(second))
        first.begin(0)
        first.make(0, 2)
        first.make(1, 2)
        first.put((0, 0), 0, (1, 0))
        first.finish(1)
        self.assertEqual(repr(seen(second)), before)
        second.begin(0)
        second.make(0, 2)
        self.assertEqual(second.cells((0, 0)), [None, None])
        self.alike(seen(House(9)), seen(House(9)))

    def test_asked_again_and_made_alike_it_tells_the_same(self):
        house = block()
        self.alike(seen(house), seen(house))
        self.alike(seen(house), seen(block()))
        self.assertEqual(house.picture(), block().picture())


class Plain:
    """A house as a list of all rooms that were ever made, and the row of each frame."""

    def __init__(self, limit):
        self.limit = limit
        self.rows = {0: [0]}
        self.taken = {}
        self.rooms = []
        self.most = 0

    def used(self):
        return sum([len(cells) for frame, place, cells in self.rooms if frame not in self.taken])

    def frame(self, number):
        if number not in self.rows:
            return ("NoFrame", {"found": number})
        if number in self.taken:
            return ("Gone", {"found": number, "by": self.taken[number]})
        return None

    def begin(self, number):
        wrong = self.frame(number)
        if wrong:
            return wrong
        self.rows[len(self.rows)] = self.rows[number] + [len(self.rows)]
        return ("told", len(self.rows) - 1)

    def finish(self, number):
        wrong = self.frame(number)
        if wrong:
            return wrong
        if number == 0:
            return ("Ground", {})
        ended = [each for each in self.rows if number in self.rows[each] and each not in self.taken]
        self.taken.update({each: number for each in ended})
        return ("told", sorted(ended, reverse=True))

    def make(self, number, size):
        wrong = self.frame(number)
        if wrong:
            return wrong
        if size not in (1, 2, 3, 4, 5, 6):
            return ("NoNumber", {"found": size})
        if self.used() + size > self.limit:
            return ("Full", {"need": size, "spare": self.limit - self.used()})
        place = sum([len(cells) for frame, begin, cells in self.rooms if frame == number])
        self.rooms.append((number, place, [None] * size))
        self.most = max(self.most, self.used())
        return ("told", (number, place))

    def put(self, way, k, value):
        held = [cells for frame, place, cells in self.rooms if (frame, place) == way]
        if not held:
            return ("NoWay", {"found": way})
        if way[0] in self.taken:
            return ("Gone", {"found": way, "by": self.taken[way[0]]})
        if not 0 <= k < len(held[0]):
            return ("NoCell", {"found": k})
        if isinstance(value, tuple) and value not in [room[:2] for room in self.rooms]:
            return ("NoValue", {"found": value})
        held[0][k] = value
        return ("told", None)

    def picture(self):
        return (self.limit, tuple([
            (number, self.rows[number][-2] if number else None, tuple([
                tuple(cells) for frame, place, cells in self.rooms if frame == number
            ]))
            for number in self.rows if number not in self.taken
        ]))


class AgainstAList(Case):
    def deed(self, dice, begun):
        number = dice.below(begun + 2)
        way = (dice.below(begun + 2), dice.below(4))
        return dice.pick([
            ("begin", (number,)), ("finish", (number,)), ("make", (number, dice.below(5))),
            ("make", (number, 1 + dice.below(3))), ("make", (number, 1)), ("put", (way, dice.below(3), way)),
            ("put", ((number, 0), dice.below(2), dice.pick([None, 5, way]))), ("put", (way, 0, (number, 0))),
        ])

    def test_rows_of_deeds(self):
        told = {}
        for seed in range(120):
            dice = Dice(seed)
            house, plain = House(3 + seed % 9), Plain(3 + seed % 9)
            for turn in range(60):
                deed, things = self.deed(dice, house.begun())
                answer = outcome(getattr(house, deed), *things)
                self.alike(answer, getattr(plain, deed)(*things), (seed, turn, deed, things))
                self.alike(house.picture(), plain.picture(), (seed, turn))
                self.alike((house.used(), house.greatest()), (plain.used(), plain.most))
                self.assertEqual(house.left(), house.limit() - house.used())
                name = deed + " " + answer[0]
                told[name] = told.get(name, 0) + 1
        # The rows are worth something only where they come to all of it.
        for name in (
            "begin told", "begin Gone", "begin NoFrame", "finish told", "finish Gone", "finish Ground", "make told",
            "make Gone", "make Full", "make NoNumber", "put told", "put Gone", "put NoCell", "put NoValue", "put NoWay",
        ):
            self.assertGreater(told.get(name, 0), 30, name)


class GoneAndWhatStands(Case):
    def test_each_way_ever_given_is_touched_or_told_gone(self):
        for seed in range(40):
            dice, house, ways = Dice(seed), House(30), []
            for turn in range(40):
                if dice.below(3) == 0:
                    house.begin(dice.pick(house.standing()))
                if dice.below(5) == 0 and house.standing() != [0]:
                    house.finish(dice.pick(house.standing()[1:]))
                told = outcome(house.make, dice.pick(house.standing()), 1 + dice.below(3))
                ways.extend([told[1]] if told[0] == "told" else [])
                for way in ways:
                    by = house.ended_by(way[0])
                    if by is None:
                        self.assertEqual(len(house.cells(way)), house.size(way))
                    else:
                        with self.assertRaises(Gone) as caught:
                            house.get(way, 0)
                        self.assertEqual((caught.exception.found, caught.exception.by), (way, by))
                stand = [way for way in ways if house.stands(way[0])]
                self.assertEqual(house.used(), sum([house.size(way) for way in stand]))


if __name__ == "__main__":
    unittest.main()
