"""Things to hand in, houses to try things with, and a look at all that is told or refused."""

import unittest

from framerooms.errors import Gone, NoFrame, RoomError
from framerooms.frames import Frames
from framerooms.house import House
from framerooms.programs import Program

LONG = 10 ** 29 + 12345678901234567890  # thirty figures


def nest(depth):
    thing = [0]
    for turn in range(depth - 1):
        thing = ([thing], (thing,), {"a": thing})[turn % 3]
    return thing


def any_things():
    """Things of every kind that may be handed in, new ones each time."""
    return [
        None, True, False, 0, 1, -1, 2, 100, 101, LONG, -LONG,
        "", "a", "abc", "0", "1", "none", "2:13", "No Name\n", "a" * 4000,
        [], [0], [1], [0, 1], [None], ["a"], [True],
        (), (0,), (1,), (0, 1), (0, 1, 2), (None,), ("a", "b"), (True, False), (-1, 0),
        {}, {0: 1}, {"a": 1}, {"a": [1, {"b": (0, 1)}]}, {0: 0, 1: 1},
        nest(8), Frames(), House(1), Program([]), RoomError("a"), NoFrame([1]),
    ]


def is_int(thing):
    return type(thing) is int


def copied(thing):
    """A copy to compare with; objects are left, which have no equals."""
    if isinstance(thing, (list, tuple)):
        return type(thing)([copied(each) for each in thing])
    if isinstance(thing, dict):
        return {copied(key): copied(value) for key, value in thing.items()}
    return thing


def refusal(test, kind, deed, *things):
    """The refusal of just this class by which the deed goes; the things stay as they were."""
    before = [copied(thing) for thing in things]
    with test.assertRaises(RoomError) as caught:
        deed(*things)
    test.assertIs(type(caught.exception), kind)
    test.assertEqual(list(things), before)
    return caught.exception


def outcome(deed, *things):
    """What is told, or the name of the refusal and its fields."""
    try:
        return ("told", deed(*things))
    except RoomError as e:
        return (type(e).__name__, vars(e))


def seen(frames):
    """All that is told of frames, or of a house, with nothing done."""
    numbers = range(frames.begun() + 1)
    told = [frames.begun(), frames.standing()] + [
        (
            frames.inside(number), frames.row(number), frames.within(number), frames.ended_by(number),
            frames.stands(number),
        )
        for number in numbers
    ]
    if isinstance(frames, House):
        told.append((frames.limit(), frames.used(), frames.left(), frames.greatest(), frames.picture()))
        told.extend([outcome(frames.rooms, number) for number in numbers])
        # No frame of a test that looks so has more places with ways that count.
        places = range(min(frames.limit(), 20) + 1)
        told.extend([outcome(frames.cells, (number, place)) for number in numbers for place in places])
    return told


class Case(unittest.TestCase):
    def refused(self, frames, kind, deed, *things):
        """The refusal; all is as it was behind it."""
        before = seen(frames)
        answer = refusal(self, kind, deed, *things)
        self.assertEqual(seen(frames), before)
        return answer

    def gone(self, frames, deed, frame, by, *more):
        answer = self.refused(frames, Gone, deed, frame, *more)
        self.assertIs(answer.found, frame)
        self.assertEqual(answer.by, by)
        self.assertIs(type(answer.by), int)

    def alike(self, first, second, why=None):
        """Equal, with the same kinds and in the same order, also within."""
        self.assertEqual(repr(first), repr(second), why)


class Dice:
    """Numbers in a row that looks thrown, but is the same each time."""

    def __init__(self, seed):
        self.state = seed

    def below(self, bound):
        self.state = (self.state * 6364136223846793005 + 1442695040888963407) % 2 ** 64
        return (self.state >> 33) % bound

    def pick(self, things):
        return things[self.below(len(things))]


def thrown_house(dice, rooms=6, frames=4, size=3):
    """A house of which some frames have ended, its cells with numbers and ways, and all its ways."""
    house = House(40)
    for turn in range(1 + dice.below(frames)):
        house.begin(dice.pick(house.standing()))
    ways = []
    for turn in range(1 + dice.below(rooms)):
        ways.append(house.make(dice.pick(house.standing()), 1 + dice.below(size)))
    for way in ways:
        for k in range(house.size(way)):
            house.put(way, k, dice.pick([None, 7, -1] + ways + ways))
    if house.begun() > 2 and dice.below(3) == 0:
        house.finish(1 + dice.below(house.begun()))
    return house, ways


def thrown_hands(dice, ways):
    names = ["b", "a", "zz", "abcdef"][dice.below(4):]
    return {name: dice.pick([None, 3, 0] + ways + ways) for name in names}


def thrown(many, **bounds):
    """So many houses, each with its dice, its ways and hands for it."""
    for seed in range(many):
        dice = Dice(seed)
        house, ways = thrown_house(dice, **bounds)
        yield dice, house, ways, thrown_hands(dice, ways)


def seen_program(program):
    """All that is told of a program, but what has no number of a making."""
    return (
        program.told(), program.deeds(), program.names(), program.makings(),
        [program.around(number) for number in program.makings()], program.widest(), program.longest(),
    )


def seen_run(run):
    """All that is told of a run with room without end."""
    return (
        run.told(), run.ending(), run.long(), run.deeds(), run.taken(), run.things(), run.touches(),
    )


def seen_framed(run):
    """All that is told of a run in frames."""
    return (run.told(), run.ending(), run.long(), run.used(), run.greatest(), run.stays())


def thrown_deed(dice, labels, names):
    """A deed without bodies, most often one that can be done: what may hold no thing is held by w."""
    word = dice.pick(["make"] * 4 + ["put"] * 5 + ["get"] * 4 + ["tell", "same", "set", "copy", "more"])
    x, y = dice.pick(names), dice.pick(names)
    z = "w" if dice.below(8) else x
    if word == "make":
        return (word, x, 2 - dice.below(8) // 7 + dice.below(2), dice.pick([None] + labels))
    if word == "put":
        return (word, x, dice.below(2), dice.pick([y, y, "w"]))
    if word == "get":
        return (word, z, y, dice.below(2))
    if word == "set":
        return (word, z, dice.pick([None, 0, -7, 30]))
    if word == "more":
        return (word, z, dice.pick(["w", "w", y]), dice.pick([1, -1, 0, 12]))
    if word == "tell":
        return (word, dice.pick(["w", x]))
    return (word, dice.pick([x, z]), dice.pick([y, y, "w"]))


def thrown_body(dice, labels, names, depth):
    """Deeds with bodies within one another, at most so many."""
    body = [("make", name, 2, dice.pick([None] + labels)) for name in names if dice.below(3) == 0]
    for turn in range(1 + dice.below(4)):
        word = dice.pick(["frame", "frame", "turns", "turns", "either"] + [""] * 6) if depth else ""
        free = [label for label in ("f", "g", "h", "abcdef") if label not in labels]
        if word == "either":
            bodies = [thrown_body(dice, labels, names, depth - 1) for side in range(2)]
            body.append((word, bodies[0], bodies[1]))
        elif word:
            label = dice.pick(free)
            inner = thrown_body(dice, labels + [label], names, depth - 1)
            turns = (1 + dice.below(3), dice.below(5)) if word == "turns" else ()
            body.append((word, label) + turns + (inner,))
        else:
            body.append(thrown_deed(dice, labels, names))
    return body


def thrown_programs(many, depth=3, names=("x", "y", "z")):
    """So many programs, each with its dice."""
    found = 0
    seed = 0
    while found < many:
        seed += 1
        dice = Dice(seed)
        try:
            first = [("make", name, 2, None) for name in names if dice.below(8)] + [("set", "w", 5)]
            program = Program(first + thrown_body(dice, ["ground"], names, depth))
        except RoomError:
            continue
        found += 1
        yield dice, program
