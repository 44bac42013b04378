"""Houses: frames that give rooms, rows of cells, which go with their frames."""

from framerooms.errors import Full, Gone, NoCell, NoNumber, NoValue, NoWay
from framerooms.frames import Frames
from framerooms.words import is_number, is_pair, is_whole

MOST_CELLS = 1000
MOST_CELLS_OF_ROOM = 6


class House(Frames):
    """Frames, and the rooms that were given in them."""

    def __init__(self, limit):
        if not is_whole(limit, 1, MOST_CELLS):
            raise NoNumber(limit)
        Frames.__init__(self)
        self.bound = limit
        # By a frame's number, and then by a room's place, what its cells hold. The rooms of an ended frame
        # stay there, since a way is known for ever.
        self.floors = {}
        # By a frame's number, how many cells all its rooms have together.
        self.lengths = {}
        self.peak = 0

    def make(self, frame, size):
        self.want_standing(frame)
        if not is_whole(size, 1, MOST_CELLS_OF_ROOM):
            raise NoNumber(size)
        spare = self.left()
        if size > spare:
            raise Full(size, spare)
        place = self.lengths.get(frame, 0)
        floor = self.floors.setdefault(frame, {})
        floor[place] = [None] * size
        self.lengths[frame] = place + size
        # Nothing but a making lets more be used.
        self.peak = max(self.peak, self.used())
        return (frame, place)

    def get(self, way, k):
        room = self.want_room(way)
        want_cell(room, k)
        return room[k]

    def put(self, way, k, value):
        room = self.want_room(way)
        want_cell(room, k)
        if not self.is_value(value):
            raise NoValue(value)
        room[k] = value

    def size(self, way):
        return len(self.want_room(way))

    def cells(self, way):
        return list(self.want_room(way))

    def used(self):
        return sum([self.lengths.get(number, 0) for number in self.standing()])

    def left(self):
        return self.bound - self.used()

    def limit(self):
        return self.bound

    def greatest(self):
        return self.peak

    def rooms(self, frame):
        self.want_standing(frame)
        return [(frame, place) for place in self.floors.get(frame, {})]

    def picture(self):
        return (self.bound, tuple([self.picture_of(number) for number in self.standing()]))

    def picture_of(self, frame):
        return (frame, self.inside(frame), tuple([tuple(self.cells(way)) for way in self.rooms(frame)]))

    def twin(self):
        other = House(self.bound)
        other.parents = list(self.parents)
        other.takers = list(self.takers)
        for frame, floor in self.floors.items():
            other.floors[frame] = dict([(place, list(room)) for place, room in floor.items()])
        other.lengths = dict(self.lengths)
        other.peak = self.peak
        return other

    def is_way(self, thing):
        return is_pair(thing) and thing[1] in self.floors.get(thing[0], {})

    def is_value(self, thing):
        return thing is None or is_number(thing) or self.is_way(thing)

    def want_room(self, thing):
        if not self.is_way(thing):
            raise NoWay(thing)
        taker = self.ended_by(thing[0])
        if taker is not None:
            raise Gone(thing, taker)
        return self.floors[thing[0]][thing[1]]


def want_cell(room, thing):
    if not is_whole(thing, 0, len(room) - 1):
        raise NoCell(thing)
