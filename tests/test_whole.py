"""Points [6], [7] and [8]: what is promised over the whole, through desks and programs, with houses of the tests' own."""

import unittest

from framerooms.changed import idled, relabelled, renamed, shifted
from framerooms.desk import Desk
from framerooms.errors import Gone, Kept, RoomError, TooDeep, TooLong, TooMany
from framerooms.framing import framed, live
from framerooms.inframes import run_in
from framerooms.looking import look, placed, shows_narrowest, unsafe
from framerooms.progtext import read_program, show_program
from framerooms.running import all_choices, free_run
from tests.helper import Case, Dice, thrown_programs
from tests.model import flat
from tests.test_framing import behind_each_deed, thrown_straight


class Room:
    def __init__(self, way, frame, size):
        self.way, self.frame, self.cells = way, frame, [None] * size


class Shelf:
    """A house as rooms that are objects, and lists of frames."""

    def __init__(self):
        self.parents = {0: None}
        self.takers = {}
        self.rooms = {}
        self.hands = {}
        self.ring = []
        self.peak = 0

    def row(self, frame):
        return [] if frame is None else [frame] + self.row(self.parents[frame])

    def part(self, frame):
        return [number for number in sorted(self.parents, reverse=True) if self.is_in(number, frame)]

    def is_in(self, number, frame):
        return number not in self.takers and frame in self.row(number)

    def standing(self):
        return [number for number in self.parents if number not in self.takers]

    def begin(self, frame):
        number = len(self.parents)
        self.parents[number] = frame
        return number

    def finish(self, frame):
        ended = self.part(frame)
        for number in ended:
            self.takers[number] = frame
        return ended

    def live(self):
        return [room for room in self.rooms.values() if room.frame not in self.takers]

    def used(self):
        return sum(len(room.cells) for room in self.live())

    def make(self, frame, size):
        place = sum(len(room.cells) for room in self.rooms.values() if room.way[0] == frame)
        self.rooms[(frame, place)] = Room((frame, place), frame, size)
        self.peak = max(self.peak, self.used())
        return (frame, place)

    def kept(self, frame):
        """The ways that are reached, each with how many steps it is away; sorted."""
        part = self.part(frame)
        inside = [room.way for room in self.live() if room.frame in part]
        row = list(self.hands.values())
        row += [value for room in self.live() if room.frame not in part for value in room.cells]
        found, far = {}, 1
        while row:
            fresh = sorted({value for value in row if value in inside and value not in found})
            found.update((way, far) for way in fresh)
            row = [value for way in fresh for value in self.rooms[way].cells]
            far += 1
        return found


def way_text(way):
    return f"{way[0]}:{way[1]}"


def value_text(value):
    return "none" if value is None else way_text(value) if isinstance(value, tuple) else str(value)


class Houses(Case):
    """A desk beside a shelf, told what was thrown."""

    def setUp(self):
        self.desk = Desk()
        self.desk.say("house 60")
        self.desk.say("ring r 0 2")
        self.shelf = Shelf()

    def test_the_promise_of_houses(self):
        met = {}
        for seed in range(60):
            self.setUp()
            dice = Dice(seed)
            for turn in range(50):
                word = dice.pick(["begin"] * 3 + ["make"] * 6 + ["put"] * 9 + ["hold"] * 3 + ["turn"] * 2 + ["end", "touch"])
                getattr(self, word)(dice, met)
                self.look_at_all()
        self.assertEqual(sorted(met), ["caught", "finish", "gone", "kept", "moved", "ring"])

    def begin(self, dice, met):
        if len(self.shelf.parents) < 90:
            frame = dice.pick(self.shelf.standing())
            self.alike(self.desk.say(f"begin {frame}"), str(self.shelf.begin(frame)))

    def make(self, dice, met):
        frame, size = dice.pick(self.shelf.standing()), 1 + dice.below(4)
        if self.shelf.used() + size <= 60:
            before = list(self.shelf.rooms)
            way = self.shelf.make(frame, size)
            self.assertNotIn(way, before)
            self.alike(self.desk.say(f"make {frame} {size}"), way_text(way))

    def value(self, dice):
        return dice.pick([None, 4, -1] + list(self.shelf.rooms) + list(self.shelf.rooms))

    def put(self, dice, met):
        rooms = self.shelf.live()
        if rooms:
            room, value = dice.pick(rooms), self.value(dice)
            k = dice.below(len(room.cells))
            room.cells[k] = value
            self.alike(self.desk.say(f"put {way_text(room.way)} {k} {value_text(value)}"), "ok")

    def hold(self, dice, met):
        name, value = dice.pick("xyz"), self.value(dice)
        self.shelf.hands[name] = value
        self.alike(self.desk.say(f"hold {name} {value_text(value)}"), "ok")

    def turn(self, dice, met):
        if len(self.shelf.parents) > 90:
            return
        self.shelf.ring = [number for number in self.shelf.ring if number not in self.shelf.takers]
        ended = []
        if len(self.shelf.ring) == 2:
            met["ring"] = True
            ended = self.shelf.finish(self.shelf.ring.pop(0))
        self.shelf.ring.append(self.shelf.begin(0))
        answer = " ".join(str(number) for number in [self.shelf.ring[-1]] + ended)
        self.alike(self.desk.say("turn r"), answer)

    def touch(self, dice, met):
        """What is gone is refused, with the frame that was ended to take it; what stands isn't."""
        for way, room in self.shelf.rooms.items():
            if room.frame not in self.shelf.takers:
                self.desk.say("cells " + way_text(way))
                continue
            met["gone"] = True
            for line in (f"cells {way_text(way)}", f"get {way_text(way)} 0", f"put {way_text(way)} 0 none"):
                with self.assertRaises(Gone) as caught:
                    self.desk.say(line)
                self.alike((caught.exception.found, caught.exception.by), (way, self.shelf.takers[room.frame]))

    def end(self, dice, met):
        frames = self.shelf.standing()[1:]
        if not frames:
            return
        frame, word = dice.pick(frames), dice.pick(["finish", "caught", "moved", "moved"])
        found = self.shelf.kept(frame)
        told = self.desk.say(f"kept {frame}")
        parts = [] if told == "none" else [part.split(" ") for part in told.split(" / ")]
        self.alike(sorted(parts), sorted([way_text(way), str(far)] for way, far in found.items()))
        if word == "caught" and found:
            met["kept"] = True
            with self.assertRaises(Kept) as caught:
                self.desk.say(f"caught {frame}")
            self.alike([[way_text(way) for way in caught.exception.ways]], [[part[0] for part in parts]])
            return
        met[word] = True
        around = self.shelf.parents[frame]
        ended = self.shelf.finish(frame)
        rows = [" ".join(str(number) for number in ended)]
        if word == "moved":
            rows += self.move([tuple(int(number) for number in part[0].split(":")) for part in parts], around)
        self.alike(self.desk.say(f"{word} {frame}"), " / ".join(rows))

    def move(self, ways, around):
        peak = self.shelf.peak
        moved = {way: self.shelf.make(around, len(self.shelf.rooms[way].cells)) for way in ways}
        self.shelf.peak = peak
        for way in ways:
            self.shelf.rooms[moved[way]].cells = list(self.shelf.rooms[way].cells)
        for room in self.shelf.live():
            room.cells = [moved.get(value, value) for value in room.cells]
        self.shelf.hands = {name: moved.get(value, value) for name, value in self.shelf.hands.items()}
        return [way_text(way) + " " + way_text(moved[way]) for way in ways]

    def look_at_all(self):
        say, shelf = self.desk.say, self.shelf
        self.alike(say("used"), str(shelf.used()))
        self.alike(say("left"), str(60 - shelf.used()))
        self.alike(say("greatest"), str(shelf.peak))
        self.alike(say("standing"), " ".join(str(number) for number in shelf.standing()))
        for frame in shelf.standing():
            ways = [way_text(room.way) for room in shelf.rooms.values() if room.way[0] == frame]
            self.alike(say(f"rooms {frame}"), " ".join(ways) or "none")
        for room in shelf.live():
            self.alike(say("cells " + way_text(room.way)), " ".join(value_text(value) for value in room.cells))
        hands = [f"{name} {value_text(value)}" for name, value in shelf.hands.items()]
        self.alike(say("hands"), " / ".join(hands) or "none")


class Programs(Case):
    def test_the_promise_of_programs(self):
        """Each run in frames tells what the one without end tells, and stops as its manner does."""
        words = {"plain": "gone", "caught": "kept", "moved": None}
        for dice, program in thrown_programs(120):
            for choices in all_choices(program):
                free = free_run(program, choices)
                ends = {}
                for manner, own in words.items():
                    run = run_in(program, choices, 1000, manner)
                    ends[manner] = run.ending()[0]
                    self.alike(run.told(), free.told()[:len(run.told())])
                    if ends[manner] != own:
                        self.alike((run.told(), run.ending()), (free.told(), free.ending()))
                if ends["caught"] != "kept":
                    self.assertNotEqual(ends["plain"], "gone")

    def test_the_promise_of_the_look(self):
        for dice, program in thrown_programs(60):
            for number, (label, paper) in look(program).items():
                self.assertTrue(shows_narrowest(program, number, label, paper))
            best = placed(program)
            self.assertIsNone(unsafe(best))
            if unsafe(program) is None:
                for choices in all_choices(program):
                    least = run_in(best, choices, 1000, "plain").used()
                    used = run_in(program, choices, 1000, "plain").used()
                    self.assertTrue(all(one <= two for one, two in zip(least, used)))

    def test_the_promise_of_frames_around_straight_programs(self):
        for dice, program in thrown_straight(120):
            try:
                told = framed(program)
            except (TooMany, TooDeep):
                continue
            self.alike(behind_each_deed(told)[:len(live(program))], live(program))
            self.assertIsNone(unsafe(told))
            # The look finds no narrower frame for a thing than its block's.
            deeds = flat(told.told())
            self.alike([row[0] for row in look(told).values()], [deeds[number][3] for number in told.makings()])

    def test_the_promise_of_other_programs(self):
        """Several changes, one behind the other."""
        for dice, program in thrown_programs(60):
            labels = {deed[1] for deed in flat(program.told()) if deed[0] in ("frame", "turns")}
            other = renamed(program, {name: name + "q" for name in program.names()})
            other = shifted(relabelled(other, {label: "l" + label[:5] for label in labels}), 100)
            try:
                other = idled(other, 0, "idle", 1)
            except (TooMany, TooLong):
                continue
            for choices in all_choices(program):
                for manner in ("plain", "caught", "moved"):
                    one, two = run_in(program, choices, 12, manner), run_in(other, choices, 12, manner)
                    self.alike(two.told(), [each + 100 if type(each) is int else each for each in one.told()])
                    self.alike(two.used(), [0] + one.used())
                    self.alike(two.ending()[0], one.ending()[0])

    def test_through_texts_and_desks(self):
        for dice, program in thrown_programs(40):
            desk = Desk()
            desk.say("program " + show_program(program).replace("\n", " / "))
            desk.say("placed")
            again = read_program(desk.say("show").replace(" / ", "\n"))
            self.alike(again.told(), placed(program).told())

    def test_all_refusals_are_room_errors(self):
        for line in (None, "", "used", "show", "house 0", "program x"):
            self.assertRaises(RoomError, Desk().say, line)
            self.assertRaises(ValueError, Desk().say, line)


if __name__ == "__main__":
    unittest.main()
