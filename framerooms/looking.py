"""The look ahead: in which frame each making may lie, whatever the choices, and how much room is used."""

from framerooms.deeds import rewritten, with_label
from framerooms.house import MOST_CELLS
from framerooms.inframes import run_in
from framerooms.programs import Program
from framerooms.running import all_choices, free_run
from framerooms.steps import path_of
from framerooms.words import is_number


def look(program):
    late = {}
    for choices in all_choices(program):
        for at, number, labels in late_touches(program, choices):
            for label in labels:
                late.setdefault((number, label), (choices, at))
    return dict([(number, narrowest(program.around(number), number, late)) for number in program.makings()])


def narrowest(around, number, late):
    """The innermost label by which nothing is touched too late, and the paper of the next inner one."""
    # Frames further out end later, so those that end too early are the innermost ones; the ground never ends.
    narrower = [label for label in around if (number, label) in late]
    paper = late[(number, narrower[-1])] if narrower else None
    return (around[len(narrower)], paper)


def late_touches(program, choices):
    """For each touch its step, the making of what is touched, and the labels whose frames have ended ahead of it."""
    path = path_of(program, choices)
    ends = {}
    for at, step in enumerate(path):
        for frame in step.ended:
            ends[frame] = at
    run = free_run(program, choices)
    things = run.things()
    found = []
    for at, thing in run.touches():
        number = things[thing][0]
        places = path[things[thing][2]].places
        # Where the run stops ahead of a frame's end, it stops ahead of all touches behind that, too.
        labels = [label for label in program.around(number) if ends.get(places[label], at) < at]
        found.append((at, number, labels))
    return found


def shows_narrowest(program, number, label, paper):
    # A truth equals a number to Python, so it is looked for ahead of all comparing.
    if not is_number(number) or number not in program.makings():
        return False
    told = look(program)[number]
    if label != told[0]:
        return False
    if told[1] is None:
        return paper is None
    around = program.around(number)
    return is_paper(paper) and shows_late(program, number, around[around.index(label) - 1], paper)


def is_paper(thing):
    if not isinstance(thing, tuple) or len(thing) != 2 or not isinstance(thing[0], tuple):
        return False
    return all([isinstance(choice, bool) for choice in thing[0]]) and is_number(thing[1])


def shows_late(program, number, label, paper):
    for at, touched, labels in late_touches(program, paper[0]):
        if at == paper[1]:
            return touched == number and label in labels
    return False


def placed(program):
    labels = {}
    for number, told in look(program).items():
        labels[number] = told[0] if told[1] is not None else None
    return Program(rewritten(program.told(), lambda number, deed: [with_label(deed, labels.get(number))]))


def plain_run(program, choices):
    return run_in(program, choices, MOST_CELLS, "plain")


def unsafe(program):
    for choices in all_choices(program):
        run = plain_run(program, choices)
        if run.ending()[0] == "gone":
            return (choices, run.long() - 1)
    return None


def most(program):
    best = (0, (), None)
    for choices in all_choices(program):
        sums = plain_run(program, choices).greatest()
        if best[2] is None or sums[0] > best[0]:
            best = (sums[0], choices, sums[1])
    return best
