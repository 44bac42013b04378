"""The steps that a run by some choices has, if it isn't stopped."""

from framerooms.deeds import OUTERMOST, many_in
from framerooms.errors import NoChoices
from framerooms.frames import GROUND


class Step:
    """The number of the deed that it is a step of, and what is done in it, in the order of its values."""

    def __init__(self, number, choice=None, ended=None, parent=None, deed=None, places=None):
        self.number = number
        # The truth that an either takes.
        self.choice = choice
        # The frames that are ended, in their order.
        self.ended = () if ended is None else ended
        # The frame within which another one is begun.
        self.parent = parent
        # The deed that is done, and in which frame it would make a thing, by each label around it, and by None.
        self.deed = deed
        self.places = places


class Walk:
    """A walk through the deeds of a program by choices; the frames get the numbers that a new house gives."""

    def __init__(self, choices):
        self.choices = choices
        self.asked = 0
        self.latest = GROUND
        self.steps = []

    def walk(self, body, first, places):
        number = first
        for deed in body:
            self.walk_deed(deed, number, places)
            number += many_in((deed,))

    def walk_deed(self, deed, number, places):
        if deed[0] == "frame":
            self.walk_frame(deed, number, places)
        elif deed[0] == "turns":
            self.walk_turns(deed, number, places)
        elif deed[0] == "either":
            self.walk_either(deed, number, places)
        else:
            self.steps.append(Step(number, deed=deed, places=places))

    def walk_frame(self, deed, number, places):
        inner = self.begin_in(deed[1], places)
        self.steps.append(Step(number, parent=places[None]))
        self.walk(deed[2], number + 1, inner)
        self.steps.append(Step(number, ended=(inner[None],)))

    def walk_turns(self, deed, number, places):
        standing = ()
        for turn in range(deed[3]):
            eldest = standing[:1] if len(standing) == deed[2] else ()
            inner = self.begin_in(deed[1], places)
            standing = standing[len(eldest):] + (inner[None],)
            self.steps.append(Step(number, ended=eldest, parent=places[None]))
            self.walk(deed[4], number + 1, inner)
        self.steps.append(Step(number, ended=tuple(reversed(standing))))

    def walk_either(self, deed, number, places):
        choice = self.asked < len(self.choices) and self.choices[self.asked]
        self.asked += 1
        self.steps.append(Step(number, choice=choice))
        if choice:
            self.walk(deed[1], number + 1, places)
        else:
            self.walk(deed[2], number + 1 + many_in(deed[1]), places)

    def begin_in(self, label, places):
        """The places within the next frame of a block of this label."""
        self.latest += 1
        inner = dict(places)
        inner[label] = self.latest
        inner[None] = self.latest
        return inner


def path_of(program, choices):
    walk = Walk(choices)
    walk.walk(program.told(), 0, {OUTERMOST: GROUND, None: GROUND})
    return walk.steps


def want_choices(thing):
    if not isinstance(thing, (list, tuple)) or not all([isinstance(each, bool) for each in thing]):
        raise NoChoices(thing)
