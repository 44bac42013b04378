"""Programs without frames that are put into frames, with the least room."""

from framerooms.deeds import OUTERMOST, bodies_of, with_label
from framerooms.doing import DONE
from framerooms.errors import NotStraight
from framerooms.programs import Program
from framerooms.running import free_run
from framerooms.words import LETTERS


def framed(program):
    want_straight(program)
    run = free_run(program, ())
    last = last_steps(run)
    begins = beginnings(run, last)
    # Of the makings that are done, each makes one thing, at the step of its own number.
    labels = dict([(made[2], label_for(end)) for made, end in zip(run.things(), last)])
    levels = [[]]
    for number, deed in enumerate(program.told()):
        levels.extend([[] for end in begins if begins[end] == number])
        levels[-1].append(with_label(deed, labels.get(number, OUTERMOST)))
        if number in begins:
            body = levels.pop()
            levels[-1].append(("frame", label_for(number), body))
    return Program(levels[0])


def want_straight(program):
    for number, deed in enumerate(program.told()):
        if bodies_of(deed):
            raise NotStraight(number)


def last_steps(run):
    """For each thing the step of its last touch, or of its making where it is never touched."""
    last = [made[2] for made in run.things()]
    for at, thing in run.touches():
        last[thing] = at
    return last


def beginnings(run, last):
    """By the step behind which a block ends, the step ahead of which it begins."""
    begins = {}
    # Those that end earlier come first, since only they may let one begin earlier.
    for end in sorted(set(last)):
        first = min([made[2] for made, step in zip(run.things(), last) if step == end])
        around = [begin for other, begin in begins.items() if other > first]
        begins[end] = min([first] + around)
    return begins


def label_for(end):
    """A label for the block that ends behind this step; no two are alike, and none is the ground's."""
    many = len(LETTERS)
    return LETTERS[end // many] + LETTERS[end % many]


def live(program):
    want_straight(program)
    run = free_run(program, ())
    spans = list(zip(run.things(), last_steps(run)))
    done = run.long() if run.ending() == DONE else run.long() - 1
    return [live_at(spans, at) for at in range(done)]


def live_at(spans, at):
    return sum([made[1] for made, last in spans if made[2] <= at < last])
