"""Runs of programs in frames, in a house."""

from framerooms.doing import DONE, Doing, Ran
from framerooms.errors import Kept, NoManner, NoNumber
from framerooms.house import MOST_CELLS
from framerooms.moving import finish_moved
from framerooms.steps import path_of, want_choices
from framerooms.ways import finish_caught
from framerooms.words import is_whole

MANNERS = ("plain", "caught", "moved")


class Framed(Ran):
    """A run in frames."""

    def __init__(self, doing, closing, sums, gone):
        Ran.__init__(self, doing.tellings, closing, len(sums))
        self.sums = list(sums)
        last = dict([(thing, at) for at, thing in doing.touched])
        self.spans = [(made[2], last.get(thing), gone.get(thing)) for thing, made in enumerate(doing.made)]

    def used(self):
        return list(self.sums)

    def greatest(self):
        if not self.sums:
            return (0, None)
        most = max(self.sums)
        return (most, self.sums.index(most))

    def stays(self):
        return list(self.spans)


def run_in(program, choices, limit, manner):
    want_choices(choices)
    if not is_whole(limit, 1, MOST_CELLS):
        raise NoNumber(limit)
    if manner not in MANNERS:
        raise NoManner(manner)
    doing = Doing(program.names(), limit)
    sums = []
    # By a thing's number, the step at which it went.
    gone = {}
    for at, step in enumerate(path_of(program, choices)):
        stop = take_step(doing, at, step, manner)
        sums.append(doing.house.used())
        mark_gone(doing, at, gone)
        if stop is not None:
            return Framed(doing, stop, sums, gone)
    return Framed(doing, DONE, sums, gone)


def take_step(doing, at, step, manner):
    """Does what the step asks for; or tells the run's ending where that can't be done."""
    for frame in step.ended:
        things = finish_in(doing, frame, manner)
        if things:
            return ("kept", at, step.number, things)
    if step.parent is not None:
        doing.house.begin(step.parent)
    if step.deed is None:
        return None
    frame = step.places[step.deed[3]] if step.deed[0] == "make" else None
    return doing.do(at, step.number, step.deed, frame)


def finish_in(doing, frame, manner):
    """Finishes a frame, and tells the things that hinder it, none where it is finished."""
    if manner == "plain":
        doing.house.finish(frame)
    elif manner == "moved":
        told = finish_moved(doing.house, frame, doing.held)
        doing.lead_on(told[1], told[2])
    else:
        try:
            finish_caught(doing.house, frame, doing.held)
        except Kept as e:
            return tuple(sorted([doing.known[way] for way in e.ways]))
    return ()


def mark_gone(doing, at, gone):
    for thing, way in enumerate(doing.ways):
        if thing not in gone and not doing.house.stands(way[0]):
            gone[thing] = at
