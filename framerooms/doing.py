"""What deeds do to names and things, step by step."""

from framerooms.house import House
from framerooms.words import is_number

DONE = ("done",)

# At which place of these deeds the name stands that holds the thing they touch, and at which the cell's number.
HOLDERS = {"put": 1, "get": 2}
CELLS = {"put": 2, "get": 3}


class Doing:
    """What the names hold, and what was told, made and touched up to now. Each thing is a room of a house."""

    def __init__(self, names, limit):
        self.house = House(limit)
        # None, a whole number or a way, which stands for a thing.
        self.held = dict([(name, None) for name in names])
        self.tellings = []
        # For each thing the number of its making, how many cells it has, and the step.
        self.made = []
        # For each thing its way, and the other way round, for each way its thing.
        self.ways = []
        self.known = {}
        # For each touch the step and the thing.
        self.touched = []

    def do(self, at, number, deed, frame):
        """Does a deed, a making in this frame; or tells the run's ending where it can't be done."""
        hindrance = self.hindrance(deed)
        if hindrance is not None:
            return ("stopped", at, number) + hindrance
        if deed[0] == "make":
            return self.make_thing(at, number, deed, frame)
        if deed[0] in HOLDERS:
            return self.touch(at, number, deed)
        self.change(deed)
        return None

    def hindrance(self, deed):
        """Why a deed can't be done, wherever things lie, and by what; None where it can."""
        if deed[0] == "more" and not is_number(self.held[deed[2]]):
            return ("number", deed[2])
        if deed[0] not in HOLDERS:
            return None
        holder = deed[HOLDERS[deed[0]]]
        cell = deed[CELLS[deed[0]]]
        if not isinstance(self.held[holder], tuple):
            return ("thing", holder)
        # The house tells nothing of what is gone, so how many cells it had is asked here.
        if cell >= self.made[self.known[self.held[holder]]][1]:
            return ("cell", cell)
        return None

    def make_thing(self, at, number, deed, frame):
        left = self.house.left()
        if deed[2] > left:
            return ("full", at, number, left)
        way = self.house.make(frame, deed[2])
        self.held[deed[1]] = way
        self.known[way] = len(self.made)
        self.ways.append(way)
        self.made.append((number, deed[2], at))
        return None

    def touch(self, at, number, deed):
        way = self.held[deed[HOLDERS[deed[0]]]]
        thing = self.known[way]
        if not self.house.stands(way[0]):
            return ("gone", at, number, thing)
        self.touched.append((at, thing))
        if deed[0] == "put":
            self.house.put(way, deed[2], self.held[deed[3]])
        else:
            self.held[deed[1]] = self.house.get(way, deed[3])
        return None

    def change(self, deed):
        if deed[0] == "set":
            self.held[deed[1]] = deed[2]
        elif deed[0] == "copy":
            self.held[deed[1]] = self.held[deed[2]]
        elif deed[0] == "more":
            self.held[deed[1]] = self.held[deed[2]] + deed[3]
        elif deed[0] == "same":
            self.tellings.append(self.held[deed[1]] == self.held[deed[2]])
        else:
            self.tellings.append(word_for(self.held[deed[1]]))

    def lead_on(self, moved, held):
        """Lets each thing have its new way where it was moved, and the names hold what they hold then."""
        for elder, way in moved.items():
            thing = self.known[elder]
            self.known[way] = thing
            self.ways[thing] = way
        self.held = held


def word_for(value):
    return "thing" if isinstance(value, tuple) else value


class Ran:
    """A run that has come to its end."""

    def __init__(self, tellings, closing, length):
        self.tellings = list(tellings)
        self.closing = closing
        self.length = length

    def told(self):
        return list(self.tellings)

    def ending(self):
        return self.closing

    def long(self):
        return self.length
