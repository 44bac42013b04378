"""Points [41] and [42], and framerooms/rings.py in the interface; of [6] what it says of rings."""

import unittest

from framerooms.errors import Gone, NoFrame, NoNumber, TooMany
from framerooms.house import House
from framerooms.rings import Ring
from tests.helper import LONG, Case, Dice, any_things, is_int, outcome, seen


def yard():
    """1 and 2 in the ground, 3 in 1; a room of 2 in each."""
    house = House(50)
    for frame in (0, 0, 1):
        house.begin(frame)
    for frame in range(4):
        house.make(frame, 2)
    return house


def filled(house):
    """The house with frames begun, and ended again, up to the hundredth."""
    while house.begun() < 100:
        house.finish(house.begin(0))
    return house


class Made(Case):
    def test_at_first_it_has_no_frames_and_changes_nothing(self):
        for many in (1, 2, 3, 4):
            for frame in range(4):
                house = yard()
                before = seen(house)
                ring = Ring(house, frame, many)
                self.alike(ring.frames(), [])
                self.assertIsNone(ring.last())
                self.alike(seen(house), before)

    def test_what_is_no_frame_is_refused(self):
        house = yard()
        things = [4, 5, -1, 100, LONG, True, False] + any_things() + [house]
        for thing in things:
            if not (is_int(thing) and 0 <= thing <= 3):
                for many in (1, 0, True, "a"):
                    self.assertIs(self.refused(house, NoFrame, Ring, house, thing, many).found, thing)

    def test_an_ended_frame_is_refused(self):
        house = yard()
        house.finish(1)
        for many in (1, 4, 5, None, True):
            for frame in (1, 3):
                answer = self.refused(house, Gone, Ring, house, frame, many)
                self.alike((answer.found, answer.by), (frame, 1))

    def test_what_is_no_such_number_is_refused(self):
        house = yard()
        for thing in [0, -1, 5, 6, 100, LONG, -LONG, True, False] + any_things():
            if not (is_int(thing) and 1 <= thing <= 4):
                for frame in (0, 3):
                    self.assertIs(self.refused(house, NoNumber, Ring, house, frame, thing).found, thing)

    def test_it_is_made_where_a_hundred_were_begun(self):
        house = filled(yard())
        self.alike(Ring(house, 0, 1).frames(), [])


class Turn(Case):
    def test_a_frame_straight_within(self):
        house = yard()
        ring = Ring(house, 3, 2)
        self.alike(ring.turn(), (4, []))
        self.assertEqual(house.row(4), [0, 1, 3, 4])
        self.alike(ring.turn(), (5, []))
        self.assertEqual(house.row(5), [0, 1, 3, 5])
        self.alike(house.within(3), [4, 5])

    def test_the_eldest_goes_where_as_many_stand_as_may(self):
        for many in (1, 2, 3, 4):
            house = House(9)
            ring = Ring(house, 0, many)
            for number in range(1, 30):
                ended = [number - many] if number > many else []
                self.alike(ring.turn(), (number, ended))
                self.alike(ring.frames(), list(range(max(1, number - many + 1), number + 1)))
                self.alike(ring.last(), number)
                self.alike(house.standing(), [0] + ring.frames())

    def test_the_eldest_goes_with_what_is_within_and_no_other(self):
        house = yard()
        ring = Ring(house, 1, 2)
        self.assertEqual(ring.turn(), (4, []))
        self.assertEqual(ring.turn(), (5, []))
        house.begin(4)
        house.begin(5)
        house.begin(6)
        for frame in (4, 5, 6, 7, 8):
            house.make(frame, 1)
        house.put((1, 0), 0, (8, 0))
        self.alike(ring.turn(), (9, [8, 6, 4]))
        self.assertEqual(house.standing(), [0, 1, 2, 3, 5, 7, 9])
        self.assertEqual([house.ended_by(number) for number in (4, 6, 8)], [4, 4, 4])
        self.gone(house, house.size, (8, 0), 4)
        self.alike(house.cells((1, 0)), [(8, 0), None])
        self.assertEqual((house.used(), house.greatest()), (10, 13))
        self.alike(ring.turn(), (10, [7, 5]))

    def test_other_frames_straight_within_are_not_the_rings(self):
        house = yard()
        ring = Ring(house, 1, 1)
        house.begin(1)
        self.alike(ring.turn(), (5, []))
        house.begin(1)
        self.alike(ring.turn(), (7, [5]))
        self.assertEqual(house.within(1), [3, 4, 6, 7])
        self.alike(ring.frames(), [7])

    def test_the_room_of_the_eldest_is_free_again(self):
        house = House(4)
        ring = Ring(house, 0, 2)
        for turn in range(40):
            number, ended = ring.turn()
            self.assertEqual(house.make(number, 2), (number, 0))
        self.assertEqual((house.used(), house.greatest()), (4, 4))


class TurnRefused(Case):
    def test_where_its_frame_has_ended(self):
        house = yard()
        ring, other = Ring(house, 3, 1), Ring(house, 0, 1)
        ring.turn()
        house.finish(1)
        for turn in range(2):
            answer = self.refused(house, Gone, ring.turn)
            self.alike((answer.found, answer.by), (3, 1))
        self.alike(ring.frames(), [])
        self.assertIsNone(ring.last())
        self.alike(other.turn(), (5, []))

    def test_where_its_frame_was_ended_itself(self):
        house = yard()
        ring = Ring(house, 2, 3)
        house.finish(2)
        answer = self.refused(house, Gone, ring.turn)
        self.alike((answer.found, answer.by), (2, 2))

    def test_the_next_frame_behind_a_hundred(self):
        for many in (1, 2, 3, 4):
            house = House(9)
            ring = Ring(house, 0, many)
            for number in range(1, 101):
                self.assertEqual(ring.turn()[0], number)
            stand = list(range(101 - many, 101))
            for turn in range(3):
                told = self.refused(house, TooMany, ring.turn).many
                self.alike(told, 101)
                self.alike(ring.frames(), stand)
                self.alike(ring.last(), 100)
                self.assertEqual(house.standing(), [0] + stand)

    def test_also_where_none_would_end(self):
        house = filled(yard())
        ring = Ring(house, 1, 2)
        self.alike(self.refused(house, TooMany, ring.turn).many, 101)
        self.alike(ring.frames(), [])

    def test_gone_goes_ahead(self):
        house = yard()
        ring = Ring(house, 3, 1)
        ring.turn()
        filled(house).finish(1)
        answer = self.refused(house, Gone, ring.turn)
        self.alike((answer.found, answer.by), (3, 1))

    def test_it_goes_on_behind_a_refusal(self):
        house = House(9)
        ring = Ring(house, 0, 2)
        while house.begun() < 99:
            house.finish(house.begin(0))
        self.alike(ring.turn(), (100, []))
        self.refused(house, TooMany, ring.turn)
        self.assertEqual(house.finish(100), [100])
        self.alike(ring.frames(), [])
        self.refused(house, TooMany, ring.turn)


class EndedOtherwise(Case):
    def test_by_the_house(self):
        house = House(9)
        ring = Ring(house, 0, 3)
        for turn in range(3):
            ring.turn()
        house.finish(2)
        self.alike(ring.frames(), [1, 3])
        self.alike(ring.turn(), (4, []))
        self.alike(ring.frames(), [1, 3, 4])
        house.finish(4)
        self.alike(ring.last(), 3)
        house.finish(1)
        self.alike(ring.turn(), (5, []))
        self.alike(ring.turn(), (6, []))
        self.alike(ring.turn(), (7, [3]))
        for number in (5, 6, 7):
            house.finish(number)
        self.alike(ring.frames(), [])
        self.assertIsNone(ring.last())

    def test_by_another_ring_around(self):
        house = House(9)
        outer = Ring(house, 0, 1)
        frame = outer.turn()[0]
        inner = Ring(house, frame, 2)
        self.alike(inner.turn(), (2, []))
        self.alike(inner.turn(), (3, []))
        self.alike(outer.turn(), (4, [3, 2, 1]))
        self.alike(inner.frames(), [])
        self.assertIsNone(inner.last())
        answer = self.refused(house, Gone, inner.turn)
        self.alike((answer.found, answer.by), (1, 1))

    def test_rings_of_one_frame_know_nothing_of_each_other(self):
        house = House(9)
        first, second = Ring(house, 0, 1), Ring(house, 0, 2)
        self.alike(first.turn(), (1, []))
        self.alike(second.turn(), (2, []))
        self.alike(second.turn(), (3, []))
        self.alike((first.frames(), second.frames()), ([1], [2, 3]))
        self.alike(first.turn(), (4, [1]))
        self.alike(second.turn(), (5, [2]))
        self.alike((first.frames(), second.frames()), ([4], [3, 5]))
        self.alike((first.last(), second.last()), (4, 5))

    def test_a_ring_goes_on_in_its_very_house(self):
        house = House(9)
        ring = Ring(house, 0, 1)
        ring.turn()
        other = house.twin()
        before = repr(seen(other))
        self.alike(ring.turn(), (2, [1]))
        self.assertEqual(repr(seen(other)), before)
        self.assertEqual(house.standing(), [0, 2])
        other.finish(1)
        other.begin(0)
        other.finish(2)
        self.alike(ring.frames(), [2])
        self.assertEqual(house.make(ring.last(), 1), (2, 0))


class NothingShared(Case):
    def test_lists_are_the_askers_own(self):
        house = House(9)
        ring = Ring(house, 0, 2)
        for turn in range(4):
            number, ended = ring.turn()
            ended.append(77)
            told = ring.frames()
            told.append(99)
            del told[0]
            self.alike(ring.frames(), [each for each in (number - 1, number) if each])
        empty = Ring(house, 0, 1)
        empty.frames().append(1)
        self.alike(empty.frames(), [])
        self.alike(empty.turn(), (5, []))
        self.alike(ring.turn(), (6, [3]))

    def test_asked_again_it_is_the_same(self):
        house = yard()
        ring = Ring(house, 1, 2)
        ring.turn()
        self.alike((ring.frames(), ring.last()), (ring.frames(), ring.last()))


class AgainstAList(Case):
    def test_rows_of_turns_and_ends(self):
        """Each ring as a list, of which the house's own word takes what has ended."""
        count = 0
        for seed in range(60):
            dice, house, rings = Dice(seed), House(9), []
            for turn in range(60):
                deed = dice.below(6)
                if deed == 0:
                    house.begin(dice.pick(house.standing()))
                elif deed == 1 and len(house.standing()) > 6:
                    house.finish(dice.pick(house.standing()[1:]))
                elif deed == 2 and len(rings) < 4:
                    frame, many = dice.pick(house.standing()), 1 + dice.below(4)
                    rings.append([Ring(house, frame, many), frame, many, []])
                elif rings:
                    count += self.turned(house, *dice.pick(rings))
                for ring, frame, many, listed in rings:
                    stand = [number for number in listed if number in house.standing()]
                    self.alike((ring.frames(), ring.last()), (stand, stand[-1] if stand else None))
        self.assertGreater(count, 100)

    def turned(self, house, ring, frame, many, listed):
        """Whether an eldest one ended by the turn."""
        before, number = house.standing(), house.begun() + 1
        stand = [each for each in listed if each in before]
        told = outcome(ring.turn)
        if frame not in before:
            self.alike(told, ("Gone", {"found": frame, "by": house.ended_by(frame)}))
            return False
        ended = []
        if len(stand) == many:
            ended = [each for each in reversed(before) if stand[0] in house.row(each)]
        self.alike(told, ("told", (number, ended)))
        self.alike(house.standing(), [each for each in before if each not in ended] + [number])
        self.assertEqual(house.inside(number), frame)
        listed.append(number)
        return ended != []


if __name__ == "__main__":
    unittest.main()
