"""Points [21], [22] and [23], and framerooms/frames.py in the interface."""

import itertools
import unittest

from framerooms.errors import Gone, Ground, NoFrame, RoomError, TooMany
from framerooms.frames import Frames
from tests.helper import LONG, Case, any_things, is_int, seen


def no_numbers(frames):
    """Things that are no numbers of frames that were begun, new ones each time."""
    begun = frames.begun()
    beside = [-1, -2, begun + 1, begun + 2, 101, 102, -begun - 1, LONG, -LONG, True, False]
    things = beside + any_things() + [frames]
    return [thing for thing in things if not (is_int(thing) and 0 <= thing <= begun)]


def tree():
    """1 and 2 in the ground, 3 and 4 in 1, 5 in 3, 6 in 2, 7 in 1."""
    frames = Frames()
    for frame in (0, 0, 1, 1, 3, 2, 1):
        frames.begin(frame)
    return frames


def full():
    """A hundred frames: 1 to 50 each within the one ahead, 51 to 100 in the ground."""
    frames = Frames()
    for frame in list(range(50)) + [0] * 50:
        frames.begin(frame)
    return frames


class AtFirst(Case):
    def test_only_the_ground_stands(self):
        frames = Frames()
        self.assertEqual(frames.begun(), 0)
        self.assertEqual(frames.standing(), [0])
        self.assertIsNone(frames.inside(0))
        self.assertEqual(frames.row(0), [0])
        self.assertEqual(frames.within(0), [])
        self.assertIsNone(frames.ended_by(0))
        self.assertIs(frames.stands(0), True)
        self.assertIs(frames.stands(1), False)

    def test_no_other_number_is_a_frame(self):
        frames = Frames()
        for deed in (frames.begin, frames.finish, frames.inside, frames.row, frames.within, frames.ended_by):
            for thing in (1, -1, 2, True, False, None, "0", [0], (0,), {0: 0}):
                self.assertIs(self.refused(frames, NoFrame, deed, thing).found, thing)


class Begin(Case):
    def test_each_gets_the_next_number(self):
        frames = Frames()
        for number, frame in enumerate((0, 0, 1, 3, 2, 0), start=1):
            told = frames.begin(frame)
            self.assertEqual(told, number)
            self.assertIs(type(told), int)
            self.assertEqual(frames.begun(), number)
            self.assertEqual(frames.inside(number), frame)

    def test_numbers_of_ended_frames_are_not_given_again(self):
        frames = Frames()
        for number in range(1, 20):
            self.assertEqual(frames.begin(0), number)
            self.assertEqual(frames.finish(number), [number])
            self.assertEqual(frames.begun(), number)
            self.assertEqual(frames.standing(), [0])

    def test_what_is_no_number_of_a_frame_is_refused(self):
        for frames in (Frames(), tree(), full()):
            number = frames.begun()
            for thing in no_numbers(frames):
                self.assertIs(self.refused(frames, NoFrame, frames.begin, thing).found, thing)
            self.assertEqual(frames.begun(), number)

    def test_truths_are_refused_where_their_numbers_stand(self):
        frames = tree()
        for truth in (True, False):
            self.assertIs(self.refused(frames, NoFrame, frames.begin, truth).found, truth)
        self.assertEqual(frames.begin(1), 8)

    def test_an_ended_frame_is_refused(self):
        frames = tree()
        frames.finish(5)
        self.gone(frames, frames.begin, 5, 5)
        frames.finish(1)
        self.gone(frames, frames.begin, 1, 1)
        self.gone(frames, frames.begin, 3, 1)
        self.gone(frames, frames.begin, 4, 1)
        self.gone(frames, frames.begin, 7, 1)
        self.gone(frames, frames.begin, 5, 5)
        self.assertEqual(frames.begin(2), 8)

    def test_the_next_number_comes_behind_refusals(self):
        frames = tree()
        frames.finish(3)
        for thing in (8, -1, True, None, [1], 3, 5):
            with self.assertRaises(RoomError):
                frames.begin(thing)
        with self.assertRaises(Ground):
            frames.finish(0)
        self.assertEqual(frames.begin(0), 8)
        self.assertEqual(frames.begin(8), 9)


class TooManyFrames(Case):
    def test_a_hundred_and_one_more(self):
        for around in ([0] * 100, list(range(100)), [k // 2 for k in range(100)]):
            frames = Frames()
            for number, frame in enumerate(around, start=1):
                self.assertEqual(frames.begin(frame), number)
            for turn in range(3):
                for frame in (0, 1, 50, 99, 100):
                    many = self.refused(frames, TooMany, frames.begin, frame).many
                    self.assertEqual(many, 101)
                    self.assertIs(type(many), int)
            self.assertEqual(frames.begun(), 100)

    def test_ended_ones_are_counted(self):
        frames = Frames()
        for number in range(1, 101):
            frames.begin(0)
            frames.finish(number)
        self.assertEqual(self.refused(frames, TooMany, frames.begin, 0).many, 101)
        self.assertEqual(frames.begun(), 100)

    def test_ending_makes_no_room(self):
        frames = full()
        self.assertEqual(frames.finish(1), list(range(50, 0, -1)))
        self.assertEqual(self.refused(frames, TooMany, frames.begin, 0).many, 101)
        self.assertEqual(self.refused(frames, TooMany, frames.begin, 51).many, 101)

    def test_the_other_refusals_go_ahead(self):
        frames = full()
        frames.finish(49)
        for thing in (101, 102, -1, True, False, None, "1", [0]):
            self.assertIs(self.refused(frames, NoFrame, frames.begin, thing).found, thing)
        self.gone(frames, frames.begin, 49, 49)
        self.gone(frames, frames.begin, 50, 49)
        self.assertEqual(self.refused(frames, TooMany, frames.begin, 48).many, 101)

    def test_frames_still_end_then(self):
        frames = full()
        self.assertEqual(frames.finish(100), [100])
        self.assertEqual(frames.finish(48), [50, 49, 48])
        self.assertEqual(frames.standing(), list(range(48)) + list(range(51, 100)))


class Told(Case):
    def test_the_frame_straight_around(self):
        frames = tree()
        self.assertEqual([frames.inside(number) for number in range(8)], [None, 0, 0, 1, 1, 3, 2, 1])

    def test_rows(self):
        frames = tree()
        rows = [[0], [0, 1], [0, 2], [0, 1, 3], [0, 1, 4], [0, 1, 3, 5], [0, 2, 6], [0, 1, 7]]
        self.assertEqual([frames.row(number) for number in range(8)], rows)

    def test_a_row_of_a_hundred(self):
        frames = Frames()
        for frame in range(100):
            frames.begin(frame)
        self.assertEqual(frames.row(100), list(range(101)))
        self.assertEqual(frames.row(37), list(range(38)))

    def test_frames_straight_within(self):
        frames = tree()
        self.assertEqual(
            [frames.within(number) for number in range(8)], [[1, 2], [3, 4, 7], [6], [5], [], [], [], []]
        )
        frames.finish(4)
        self.assertEqual(frames.within(1), [3, 7])
        frames.finish(3)
        self.assertEqual(frames.within(1), [7])
        self.assertEqual(frames.within(3), [])
        frames.begin(1)
        self.assertEqual(frames.within(1), [7, 8])
        frames.finish(1)
        self.assertEqual(frames.within(1), [])
        self.assertEqual(frames.within(0), [2])

    def test_of_ended_frames(self):
        frames = tree()
        rows = [frames.row(number) for number in range(8)]
        around = [frames.inside(number) for number in range(8)]
        frames.finish(3)
        frames.finish(1)
        frames.finish(2)
        self.assertEqual([frames.row(number) for number in range(8)], rows)
        self.assertEqual([frames.inside(number) for number in range(8)], around)
        self.assertEqual([frames.within(number) for number in range(8)], [[]] * 8)
        self.assertEqual([frames.ended_by(number) for number in range(8)], [None, 1, 2, 3, 1, 3, 2, 1])
        self.assertEqual([frames.stands(number) for number in range(8)], [True] + [False] * 7)
        self.assertEqual(frames.standing(), [0])
        self.assertEqual(frames.begun(), 7)

    def test_what_is_no_number_of_a_frame_is_refused(self):
        for frames in (Frames(), tree(), full()):
            for deed in (frames.inside, frames.row, frames.within, frames.ended_by):
                for thing in no_numbers(frames):
                    self.assertIs(self.refused(frames, NoFrame, deed, thing).found, thing)

    def test_no_frame_holds_the_very_list(self):
        frames = tree()
        for deed in (frames.begin, frames.finish, frames.inside, frames.row, frames.within, frames.ended_by):
            thing = [[1], {"a": [2]}]
            found = self.refused(frames, NoFrame, deed, thing).found
            thing[0].append(3)
            self.assertIs(found, thing)
            self.assertEqual(found, [[1, 3], {"a": [2]}])

    def test_whether_a_thing_stands(self):
        frames = tree()
        frames.finish(3)
        for number in range(-3, 12):
            self.assertIs(frames.stands(number), number in (0, 1, 2, 4, 6, 7), number)
        for thing in no_numbers(frames):
            self.assertIs(frames.stands(thing), False, thing)

    def test_truths_do_not_stand(self):
        frames = tree()
        self.assertIs(frames.stands(1), True)
        self.assertIs(frames.stands(True), False)
        self.assertIs(frames.stands(False), False)

    def test_all_that_stand(self):
        frames = tree()
        self.assertEqual(frames.standing(), [0, 1, 2, 3, 4, 5, 6, 7])
        frames.finish(3)
        self.assertEqual(frames.standing(), [0, 1, 2, 4, 6, 7])
        frames.begin(2)
        self.assertEqual(frames.standing(), [0, 1, 2, 4, 6, 7, 8])
        frames.finish(2)
        self.assertEqual(frames.standing(), [0, 1, 4, 7])

    def test_how_many_were_begun(self):
        frames = tree()
        frames.finish(1)
        self.assertEqual(frames.begun(), 7)
        self.assertIs(type(frames.begun()), int)


class Finish(Case):
    def test_a_frame_alone(self):
        frames = tree()
        self.assertEqual(frames.finish(5), [5])
        self.assertEqual(frames.ended_by(5), 5)
        self.assertEqual(frames.standing(), [0, 1, 2, 3, 4, 6, 7])

    def test_all_within_end_however_deep(self):
        frames = tree()
        self.assertEqual(frames.finish(1), [7, 5, 4, 3, 1])
        self.assertEqual(frames.standing(), [0, 2, 6])
        self.assertEqual([frames.ended_by(number) for number in range(8)], [None, 1, None, 1, 1, 1, None, 1])

    def test_no_other_ends(self):
        frames = tree()
        self.assertEqual(frames.finish(2), [6, 2])
        self.assertEqual(frames.standing(), [0, 1, 3, 4, 5, 7])

    def test_what_has_ended_is_not_told_again(self):
        frames = tree()
        self.assertEqual(frames.finish(3), [5, 3])
        self.assertEqual(frames.finish(1), [7, 4, 1])
        self.assertEqual([frames.ended_by(number) for number in (1, 3, 4, 5, 7)], [1, 3, 1, 3, 1])

    def test_the_inner_one_first_also_where_the_outer_was_begun_later(self):
        frames = Frames()
        for frame in (0, 0, 2, 1, 3, 4):
            frames.begin(frame)
        self.assertEqual(frames.finish(2), [5, 3, 2])
        self.assertEqual(frames.finish(1), [6, 4, 1])

    def test_a_hundred_within_one_another(self):
        frames = Frames()
        for frame in range(100):
            frames.begin(frame)
        self.assertEqual(frames.finish(60), list(range(100, 59, -1)))
        self.assertEqual(frames.finish(1), list(range(59, 0, -1)))
        self.assertEqual(frames.ended_by(60), 60)
        self.assertEqual(frames.ended_by(100), 60)
        self.assertEqual(frames.ended_by(59), 1)

    def test_what_is_no_number_of_a_frame_is_refused(self):
        for frames in (Frames(), tree(), full()):
            for thing in no_numbers(frames):
                self.assertIs(self.refused(frames, NoFrame, frames.finish, thing).found, thing)

    def test_truths_are_refused_where_their_numbers_stand(self):
        frames = tree()
        for truth in (True, False):
            self.assertIs(self.refused(frames, NoFrame, frames.finish, truth).found, truth)
        self.assertEqual(frames.finish(1), [7, 5, 4, 3, 1])

    def test_an_ended_frame_is_refused(self):
        frames = tree()
        frames.finish(3)
        self.gone(frames, frames.finish, 3, 3)
        self.gone(frames, frames.finish, 5, 3)
        frames.finish(1)
        self.gone(frames, frames.finish, 3, 3)
        self.gone(frames, frames.finish, 5, 3)
        self.gone(frames, frames.finish, 1, 1)
        self.gone(frames, frames.finish, 4, 1)

    def test_the_ground_is_refused(self):
        for frames in (Frames(), tree(), full()):
            self.refused(frames, Ground, frames.finish, 0)
            self.refused(frames, Ground, frames.finish, 0)
        frames = tree()
        frames.finish(1)
        frames.finish(2)
        self.refused(frames, Ground, frames.finish, 0)
        self.assertIs(frames.stands(0), True)
        self.assertEqual(frames.begin(0), 8)


class NothingShared(Case):
    def test_lists_are_the_askers_own(self):
        frames = tree()
        frames.finish(3)
        before = seen(frames)
        for ask in (
            lambda: frames.row(5), lambda: frames.row(0), lambda: frames.row(7), lambda: frames.within(0),
            lambda: frames.within(1), lambda: frames.within(3), lambda: frames.standing(),
        ):
            told = ask()
            kept = list(told)
            told.append(99)
            told.insert(0, -1)
            self.assertEqual(ask(), kept)
            again = ask()
            del again[:]
            self.assertEqual(ask(), kept)
            self.assertEqual(seen(frames), before)

    def test_the_list_of_what_ends_is_the_askers_own(self):
        frames = tree()
        told = frames.finish(1)
        before = seen(frames)
        told[:] = [0, 2, 6]
        self.assertEqual(seen(frames), before)
        self.assertEqual(frames.finish(2), [6, 2])

    def test_asked_again_it_is_the_same(self):
        frames = tree()
        frames.finish(3)
        self.assertEqual(seen(frames), seen(frames))

    def test_what_is_made_alike_tells_the_same(self):
        first, second = tree(), tree()
        self.assertEqual(first.finish(3), second.finish(3))
        self.assertEqual(seen(first), seen(second))

    def test_two_have_nothing_in_common(self):
        first, second = Frames(), Frames()
        self.assertEqual(first.begin(0), 1)
        self.assertEqual(second.begun(), 0)
        self.assertEqual(second.standing(), [0])
        self.refused(second, NoFrame, second.begin, 1)
        self.assertEqual(second.begin(0), 1)
        self.assertEqual(second.begin(1), 2)
        before = seen(second)
        self.assertEqual(first.finish(1), [1])
        self.assertEqual(seen(second), before)
        self.assertEqual(seen(Frames()), [0, [0], (None, [0], [], None, True)])

    def test_a_full_one_leaves_another_empty(self):
        full()
        self.assertEqual(Frames().begin(0), 1)


class Model:
    """Frames as nested dicts, of which those that stand are still there."""

    def __init__(self):
        self.count = 0
        self.inner = {0: {}}
        self.taken = {}

    def find(self, number, inner):
        for key, deeper in inner.items():
            found = inner if key == number else self.find(number, deeper)
            if found is not None:
                return found
        return None

    def below(self, inner):
        return [number for key, deeper in inner.items() for number in [key] + self.below(deeper)]

    def do(self, deed, number):
        if number > self.count:
            return ("NoFrame", number)
        if number in self.taken:
            return ("Gone", number, self.taken[number])
        holder = self.find(number, self.inner)
        if deed == "begin":
            self.count += 1
            holder[number][self.count] = {}
            return self.count
        if number == 0:
            return ("Ground",)
        ended = sorted([number] + self.below(holder.pop(number)), reverse=True)
        self.taken.update({each: number for each in ended})
        return ended

    def standing(self):
        return sorted(self.below(self.inner))


def did(frames, deed, number):
    try:
        return frames.begin(number) if deed == "begin" else frames.finish(number)
    except NoFrame as e:
        return ("NoFrame", e.found)
    except Gone as e:
        return ("Gone", e.found, e.by)
    except Ground:
        return ("Ground",)


class AllShortRows(Case):
    def test_every_row_of_deeds_against_nested_dicts(self):
        deeds = [("begin", 0), ("begin", 1), ("begin", 2), ("begin", 3), ("finish", 1), ("finish", 2), ("finish", 3)]
        for row in itertools.product(deeds, repeat=4):
            frames, model = Frames(), Model()
            for deed, number in (("begin", 0),) + row:
                self.assertEqual(did(frames, deed, number), model.do(deed, number), row)
            self.assertEqual(frames.standing(), model.standing(), row)
            self.assertEqual(frames.begun(), model.count)
            for number in range(model.count + 1):
                self.assertEqual(frames.ended_by(number), model.taken.get(number))
                self.assertEqual(frames.stands(number), number not in model.taken)


if __name__ == "__main__":
    unittest.main()
