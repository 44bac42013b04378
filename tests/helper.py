"""Things to hand in, and a look at what a refusal holds."""

import copy

from framerooms.errors import NoFrame, RoomError
from framerooms.frames import Frames

LONG = 10 ** 29 + 12345678901234567890  # thirty figures


def nest(depth):
    thing = [0]
    for turn in range(depth - 1):
        thing = ([thing], (thing,), {"a": thing})[turn % 3]
    return thing


def any_things():
    """Things of every kind that may be handed in, new ones each time."""
    return [
        None, True, False, 0, 1, -1, 2, 100, 101, LONG, -LONG,
        "", "a", "abc", "0", "1", "none", "2:13", "No Name\n", "a" * 4000,
        [], [0], [1], [0, 1], [None], ["a"], [True],
        (), (0,), (1,), (0, 1), (0, 1, 2), (None,), ("a", "b"), (True, False), (-1, 0),
        {}, {0: 1}, {"a": 1}, {"a": [1, {"b": (0, 1)}]}, {0: 0, 1: 1},
        nest(8), Frames(), RoomError("a"), NoFrame([1]),
    ]


def is_int(thing):
    return type(thing) is int


def copied(thing):
    """A copy to compare with; objects are left, which have no equals."""
    return copy.deepcopy(thing) if isinstance(thing, (list, tuple, dict)) else thing


def refusal(test, kind, deed, *things):
    """The refusal of just this class by which the deed goes; the things stay as they were."""
    before = [copied(thing) for thing in things]
    with test.assertRaises(RoomError) as caught:
        deed(*things)
    test.assertIs(type(caught.exception), kind)
    test.assertEqual(list(things), before)
    return caught.exception
