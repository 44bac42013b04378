"""Frames within frames, begun and ended by their numbers."""

from framerooms.errors import Gone, Ground, NoFrame, TooMany
from framerooms.words import is_whole

GROUND = 0
MOST_FRAMES = 100


class Frames:
    """The ground and all frames that were begun, ended ones too."""

    def __init__(self):
        # Both lists have a place for each frame, by its number.
        self.parents = [None]
        self.takers = [None]

    def begin(self, frame):
        self.want_beginning(frame)
        self.parents.append(frame)
        self.takers.append(None)
        return self.begun()

    def finish(self, frame):
        self.want_finishing(frame)
        ended = self.part(frame)
        for number in ended:
            self.takers[number] = frame
        return ended

    def part(self, frame):
        """The frame and all that stand within it, in the order in which they would end."""
        # A frame is begun behind the one around it, so in falling numbers the inner ones go first.
        return [number for number in reversed(self.standing()) if frame in self.row(number)]

    def inside(self, frame):
        self.want_begun(frame)
        return self.parents[frame]

    def row(self, frame):
        self.want_begun(frame)
        outward = []
        step = frame
        while step is not None:
            outward.append(step)
            step = self.parents[step]
        return list(reversed(outward))

    def within(self, frame):
        self.want_begun(frame)
        return [number for number in self.standing() if self.parents[number] == frame]

    def ended_by(self, frame):
        self.want_begun(frame)
        return self.takers[frame]

    def stands(self, thing):
        return self.was_begun(thing) and self.takers[thing] is None

    def standing(self):
        return [number for number, taker in enumerate(self.takers) if taker is None]

    def begun(self):
        # The ground was never begun.
        return len(self.parents) - 1

    def was_begun(self, thing):
        return is_whole(thing, GROUND, self.begun())

    def want_begun(self, thing):
        if not self.was_begun(thing):
            raise NoFrame(thing)

    def want_standing(self, thing):
        self.want_begun(thing)
        if not self.stands(thing):
            raise Gone(thing, self.takers[thing])

    def want_beginning(self, thing):
        self.want_standing(thing)
        if self.begun() == MOST_FRAMES:
            raise TooMany(MOST_FRAMES + 1)

    def want_finishing(self, thing):
        self.want_standing(thing)
        if thing == GROUND:
            raise Ground()
