"""Runs of programs with room without end."""

from framerooms.doing import DONE, Doing, Ran
from framerooms.frames import GROUND
from framerooms.house import MOST_CELLS
from framerooms.steps import path_of, want_choices


class Run(Ran):
    """A run with room without end."""

    def __init__(self, doing, closing, path):
        Ran.__init__(self, doing.tellings, closing, len(path))
        self.numbers = [step.number for step in path]
        self.truths = [step.choice for step in path if step.choice is not None]
        self.made = list(doing.made)
        self.touched = list(doing.touched)

    def deeds(self):
        return list(self.numbers)

    def taken(self):
        return list(self.truths)

    def things(self):
        return list(self.made)

    def touches(self):
        return list(self.touched)


def all_choices(program):
    rows = [()]
    for turn in range(program.widest()):
        # What comes first differs first, so it is put ahead of all rows.
        rows = [(False,) + row for row in rows] + [(True,) + row for row in rows]
    return rows


def free_run(program, choices):
    want_choices(choices)
    path = path_of(program, choices)
    # A run has a hundred steps at most, and a making six cells, so a house of a thousand cells is room without
    # end; and on the ground nothing is ever gone.
    doing = Doing(program.names(), MOST_CELLS)
    for at, step in enumerate(path):
        stop = None if step.deed is None else doing.do(at, step.number, step.deed, GROUND)
        if stop is not None:
            return Run(doing, stop, path[:at + 1])
    return Run(doing, DONE, path)
