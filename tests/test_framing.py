"""Points [111] to [113] and what [8] says of framing, and framerooms/framing.py in the interface."""

import itertools
import unittest

from framerooms.errors import NotStraight, TooDeep, TooMany
from framerooms.framing import framed, live
from framerooms.inframes import run_in
from framerooms.programs import Program
from framerooms.progtext import read_program, show_program
from framerooms.running import free_run
from tests.helper import Case, Dice, refusal, seen_program, thrown_deed
from tests.model import Model, flat


def thrown_straight(many, most=14):
    """Straight programs of up to so many deeds, each with its dice."""
    for seed in range(many):
        dice = Dice(seed)
        names = ("x", "y", "z")[dice.below(2):]
        first = [("make", name, 2, None) for name in names if dice.below(5)]
        yield dice, Program(first + [thrown_deed(dice, ["ground"], names) for turn in range(dice.below(most))])


def lasts(program):
    """For each thing its making's step and its last step, by another way to run."""
    run = Model(program.told(), ())
    return [(thing.made, thing.made if thing.last is None else thing.last) for thing in run.things]


def blocks_of(program):
    """The deeds without bodies, and for each block its label, its first and its last deed."""
    deeds, blocks = [], []

    def go(body):
        for deed in body:
            if deed[0] == "frame":
                first = len(deeds)
                go(deed[2])
                blocks.append((deed[1], first, len(deeds) - 1))
            else:
                deeds.append(deed)

    go(program.told())
    return deeds, blocks


def is_laminar(spans):
    """Whether of any two one stands within the other, or one ends ahead of the other's beginning."""
    for (one, two), (three, four) in itertools.combinations(spans, 2):
        apart = two < three or four < one
        within = (one <= three and four <= two) or (three <= one and two <= four)
        if not apart and not within:
            return False
    return True


def behind_each_deed(program):
    """What the plain run uses behind each deed without bodies, when the frames that end right behind it have ended."""
    deeds = flat(program.told())
    run = run_in(program, (), 1000, "plain")
    sums = []
    begun = {}
    for number, used in zip(free_run(program, ()).deeds(), run.used()):
        if deeds[number][0] != "frame":
            sums.append(used)
        elif number in begun:
            sums[-1] = used
        begun[number] = True
    return sums


class Refused(Case):
    def test_not_straight(self):
        for text, number in (
            ("frame f\nend", 0), ("turns f 1 0\nend", 0), ("either\nor\nend", 0), ("tell x\nmake x 1\nframe f\nend\ntell x", 2),
            ("tell x\neither\nframe f\nend\nor\nend\nframe g\nend", 1), ("put x 0 x\ntell x\nturns f 1 1\nend", 2),
        ):
            program = read_program(text)
            for deed in (framed, live):
                self.alike(refusal(self, NotStraight, deed, program).number, number)

    def test_too_many(self):
        # Each of the things has its own last step.
        pairs = [deed for name in "abcdefghijklm" for deed in (("make", name, 1, None), ("put", name, 0, name))]
        self.alike(framed(Program(pairs)).deeds(), 39)
        self.alike(framed(Program(pairs + [("tell", "a")])).deeds(), 40)
        self.alike(refusal(self, TooMany, framed, Program(pairs + [("tell", "a")] * 2)).many, 41)
        self.alike(refusal(self, TooMany, framed, Program([("make", "x", 1, None)] * 40)).many, 80)
        self.alike(framed(Program([("make", "x", 1, None)] * 20)).deeds(), 40)
        self.alike(refusal(self, TooMany, framed, Program([("make", "x", 1, None)] * 21)).many, 42)

    def deep(self, many):
        """So many things, the first made the last one touched."""
        names = "abcdefghijklmnopqrst"[:many]
        return Program([("make", name, 1, None) for name in names] + [("put", name, 0, name) for name in reversed(names)])

    def test_too_deep(self):
        for many in range(7):
            self.alike(framed(self.deep(many)).deeds(), 3 * many)
        for many in range(7, 14):
            self.alike(refusal(self, TooDeep, framed, self.deep(many)).depth, many)
        for many in range(14, 21):
            self.alike(refusal(self, TooMany, framed, self.deep(many)).many, 3 * many)

    def test_live_is_refused_by_nothing_more(self):
        self.alike(live(self.deep(20)), list(range(1, 21)) + list(range(19, -1, -1)))


class Framed(Case):
    def told(self, text, wanted):
        """The text, with labels of their own: a, b, .. in the order in which they are read."""
        program = framed(read_program(text))
        self.assertIs(type(program), Program)
        labels = [deed[1] for deed in flat(program.told()) if deed[0] == "frame"]
        self.assertEqual(len(set(labels)), len(labels))
        self.assertNotIn("ground", labels)
        lines = show_program(program)
        for label, plain in zip(labels, "abcdefghijklm"):
            lines = lines.replace(f"frame {label}\n", f"frame {plain.upper()}\n")
            lines = lines.replace(f" in {label}\n", f" in {plain.upper()}\n")
        self.alike(lines.lower().replace("\n", "/"), wanted)

    def test_nothing(self):
        self.told("", "")

    def test_no_things(self):
        self.told("set x 1\ntell x", "set x 1/tell x")

    def test_never_touched(self):
        self.told("tell x\nmake x 1\ntell x", "tell x/frame a/make x 1 in a/end/tell x")

    def test_one_thing(self):
        self.told(
            "make x 1\ntell x\nput x 0 y\nget y x 0\ntell x",
            "frame a/make x 1 in a/tell x/put x 0 y/get y x 0/end/tell x",
        )

    def test_one_ahead_of_the_other(self):
        self.told(
            "make x 1\nput x 0 y\nmake x 2\nput x 0 y",
            "frame a/make x 1 in a/put x 0 y/end/frame b/make x 2 in b/put x 0 y/end",
        )

    def test_one_within_the_other(self):
        self.told(
            "make x 1\nmake y 1\nput y 0 z\nput x 0 z",
            "frame a/make x 1 in a/frame b/make y 1 in b/put y 0 z/end/put x 0 z/end",
        )

    def test_one_that_would_overlap_begins_where_the_other_does(self):
        self.told(
            "tell z\nmake x 1\nmake y 1\nput x 0 z\nput y 0 z",
            "tell z/frame a/frame b/make x 1 in b/make y 1 in a/put x 0 z/end/put y 0 z/end",
        )

    def test_overlaps_in_a_row(self):
        self.told(
            "make x 1\nmake y 1\nput x 0 w\nmake z 1\nput y 0 w\nput z 0 w",
            "frame a/frame b/frame c/make x 1 in c/make y 1 in b/put x 0 w/end/make z 1 in a/put y 0 w/end/put z 0 w/end",
        )

    def test_touched_by_another_name(self):
        self.told(
            "make x 1\nmake y 1\nput x 0 w\ncopy x y\nput x 0 w",
            "frame a/frame b/make x 1 in b/make y 1 in a/put x 0 w/end/copy x y/put x 0 w/end",
        )

    def test_other_labels_go(self):
        self.told("make x 1 in ground\nput x 0 x", "frame a/make x 1 in a/put x 0 x/end")

    def test_behind_a_stop(self):
        self.told(
            "make x 1\nput x 0 x\nput w 0 x\nmake y 2\nput x 0 x\nmake z 1 in ground",
            "frame a/make x 1 in a/put x 0 x/end/put w 0 x/make y 2 in ground/put x 0 x/make z 1 in ground",
        )
        self.told("more x x 1\nmake x 1", "more x x 1/make x 1 in ground")
        # A touch that isn't done is none.
        self.told("make x 1\nput x 1 x\nput x 0 x", "frame a/make x 1 in a/end/put x 1 x/put x 0 x")

    def test_forty_labels_are_names(self):
        program = framed(Program([("make", "x", 1, None)] * 20))
        labels = [deed[1] for deed in program.told()]
        self.assertEqual(len(set(labels)), 20)

    def test_against_the_words(self):
        met = set()
        for dice, program in thrown_straight(400):
            try:
                told = framed(program)
            except (TooMany, TooDeep):
                continue
            deeds, blocks = blocks_of(told)
            spans = lasts(program)
            ends = sorted(set(last for made, last in spans))
            label_of = {last: label for label, first, last in blocks}
            # A block for each last step, and no two of one.
            self.assertEqual(sorted(last for label, first, last in blocks), ends)
            self.assertEqual(len({label for label, first, last in blocks}), len(blocks))
            self.assertTrue(is_laminar([(first, last) for label, first, last in blocks]))
            labels = dict(spans)
            wanted = [
                deed[:3] + (label_of[labels[number]] if number in labels else "ground",) if deed[0] == "make" else deed
                for number, deed in enumerate(program.told())
            ]
            self.alike(deeds, wanted)
            met.add(len(blocks))
        self.assertGreater(len(met), 5)

    def test_as_late_as_can_be(self):
        """Held against all beginnings by which the blocks are around their makings and don't overlap."""
        held = 0
        for dice, program in thrown_straight(300, 9):
            spans = lasts(program)
            ends = sorted(set(last for made, last in spans))
            if len(ends) > 4:
                continue
            firsts = [min(made for made, last in spans if last == end) for end in ends]
            told = {last: first for label, first, last in blocks_of(framed(program))[1]}
            for begins in itertools.product(*[range(first + 1) for first in firsts]):
                if is_laminar(list(zip(begins, ends))):
                    held += 1
                    self.assertTrue(all(begin <= told[end] for begin, end in zip(begins, ends)))
            self.assertTrue(all(told[end] <= first for first, end in zip(firsts, ends)))
        self.assertGreater(held, 1000)

    def test_the_program_stays(self):
        for dice, program in thrown_straight(30):
            before = seen_program(program)
            try:
                framed(program)
            except (TooMany, TooDeep):
                pass
            live(program)
            self.alike(seen_program(program), before)


class Live(Case):
    def told(self, text, *sums):
        self.alike(live(read_program(text)), list(sums))

    def test_ordinary(self):
        self.told("")
        self.told("tell x\nset x 1", 0, 0)
        self.told("make x 3", 0)
        self.told("make x 3\ntell x", 0, 0)
        self.told("make x 3\nput x 0 x", 3, 0)
        self.told("make x 3\nput x 0 x\nmake y 2\nput y 0 x\ntell x\nget z x 0\nput y 0 y", 3, 3, 5, 5, 5, 2, 0)

    def test_behind_a_stop(self):
        self.told("make x 2\nput x 0 x\nput y 0 x\nmake x 1", 2, 0)
        self.told("more x x 1")
        self.told("make x 2\ntell x\nput x 2 x\nput x 0 x", 0, 0)

    def test_lists_are_the_askers_own(self):
        program = read_program("make x 3\nput x 0 x")
        live(program).append(1)
        self.alike(live(program), [3, 0])

    def test_against_the_words(self):
        for dice, program in thrown_straight(300):
            run = Model(program.told(), ())
            done = len(run.deeds) - (run.ending != ("done",))
            self.alike(live(program), [
                sum(
                    len(thing.cells) for thing in run.things
                    if thing.made <= step and any(at > step for at, number in run.touches if number == thing.number)
                )
                for step in range(done)
            ])


class Together(Case):
    def test_the_run_in_these_frames(self):
        met = set()
        for dice, program in thrown_straight(400):
            try:
                told = framed(program)
            except (TooMany, TooDeep):
                continue
            free, run = free_run(program, ()), run_in(told, (), 1000, "plain")
            self.alike(run.told(), free.told())
            self.alike(run.ending()[:1] + run.ending()[3:], free.ending()[:1] + free.ending()[3:])
            sums = live(program)
            self.alike(behind_each_deed(told)[:len(sums)], sums)
            met.add(run.ending()[0])
        self.assertEqual(met, {"done", "stopped"})

    def test_the_number_of_the_deed_at_which_it_stops(self):
        program = read_program("make x 1\nput x 0 x\nmake y 1\nput x 3 y")
        run = run_in(framed(program), (), 1000, "plain")
        self.alike(run.ending(), ("stopped", 7, 5, "cell", 3))

    def test_with_less_no_frames_do(self):
        """Other frames and labels around the same deeds, thrown, by which nothing is gone."""
        held = 0
        for dice, program in thrown_straight(150, 8):
            sums = live(program)
            for turn in range(12):
                other = thrown_frames(dice, list(program.told()), [])
                if run_in(other, (), 1000, "plain").ending()[0] == "gone":
                    continue
                held += 1
                used = behind_each_deed(other)
                self.assertTrue(all(least <= more for least, more in zip(sums, used)))
        self.assertGreater(held, 500)


def thrown_frames(dice, deeds, labels):
    """The same deeds with frames around some of them, and any labels."""
    spans = []
    for turn in range(dice.below(5)):
        first = dice.below(len(deeds) + 1)
        span = (first, first + dice.below(len(deeds) + 1 - first))
        if is_laminar([span] + spans) and span[1] < len(deeds):
            spans.append(span)
    names = {span: name for span, name in zip(sorted(spans, key=lambda span: span[0] - span[1]), "abcde")}

    def build(first, last, inner, around):
        body = []
        at = first
        while at <= last:
            starts = [span for span in inner if span[0] == at]
            if starts:
                span = max(starts, key=lambda span: span[1])
                rest = [other for other in inner if other != span and span[0] <= other[0] and other[1] <= span[1]]
                body.append(("frame", names[span], build(span[0], span[1], rest, around + [names[span]])))
                at = span[1] + 1
            else:
                deed = deeds[at]
                body.append(deed[:3] + (dice.pick([None] + around),) if deed[0] == "make" else deed)
                at += 1
        return body

    return Program(build(0, len(deeds) - 1, sorted(set(spans)), ["ground"]))


if __name__ == "__main__":
    unittest.main()
