"""Points [101] to [106] and what [8] says of the look, and framerooms/looking.py in the interface."""

import itertools
import math
import unittest

from framerooms.deeds import rewritten
from framerooms.inframes import run_in
from framerooms.looking import look, most, placed, shows_narrowest, unsafe
from framerooms.programs import Program
from framerooms.progtext import read_program, show_program
from framerooms.running import all_choices, free_run
from tests.helper import Case, any_things, copied, seen_program, thrown_programs
from tests.model import Model, flat


def papers(program, number, label):
    """All papers that show that the making may not lie in the frame of this label, by just so many choices as are
    asked at most."""
    return [
        (choices, at) for choices in all_choices(program)
        for at in Model(program.told(), choices).late(number, label)
    ]


def narrowest(program, number):
    """The label, and all papers that show it; none where it is the innermost."""
    shown = []
    for label in program.around(number):
        found = papers(program, number, label)
        if not found:
            return label, shown
        shown = found


def with_labels(program, labels):
    """The program with a label for each of its makings, in their order."""
    labels = dict(zip(program.makings(), labels))
    return Program(rewritten(
        program.told(), lambda number, deed: [deed[:3] + (labels[number],) if number in labels else deed],
    ))


def all_labels(program):
    return itertools.product(*[program.around(number) for number in program.makings()])


def run_plain(program, choices):
    return run_in(program, choices, 1000, "plain")


def is_safe(program):
    return all(run_plain(program, choices).ending()[0] != "gone" for choices in all_choices(program))


class Look(Case):
    def told(self, text, *labels):
        """The labels that the look tells; papers are there where they are to be, and show it."""
        program = read_program(text)
        found = look(program)
        self.alike(list(found), program.makings())
        self.alike([row[0] for row in found.values()], list(labels))
        for number, row in found.items():
            self.assertIs(type(row), tuple)
            self.paper(program, number, row)

    def paper(self, program, number, row):
        self.assertEqual(len(row), 2)
        label, paper = row
        if label == program.around(number)[0]:
            self.assertIsNone(paper)
            return
        inner = program.around(number)[program.around(number).index(label) - 1]
        self.assertIs(type(paper), tuple)
        self.assertIs(type(paper[0]), tuple)
        self.assertTrue(all(type(choice) is bool for choice in paper[0]))
        self.assertIs(type(paper[1]), int)
        self.assertIn(paper[1], Model(program.told(), paper[0]).late(number, inner))
        self.assertTrue(shows_narrowest(program, number, label, paper))

    def test_nothing(self):
        self.told("")
        self.told("frame f\nend")

    def test_on_the_ground(self):
        self.told("make x 1\nput x 0 x\nmake y 1", "ground", "ground")

    def test_never_touched(self):
        self.told("frame f\nframe g\nmake x 1\nend\ntell x\nend\ncopy y x\nsame x y", "g")

    def test_touched_within(self):
        self.told("frame f\nframe g\nmake x 1\nput x 0 x\nget y x 0\nend\nend", "g")

    def test_touched_behind_the_end(self):
        self.told("frame f\nframe g\nmake x 1\nend\nput x 0 x\nend", "f")
        self.told("frame f\nframe g\nmake x 1\nend\nend\nget y x 0", "ground")
        self.told("frame f\nmake x 1\nend\nframe f\nput x 0 x\nend", "ground")

    def test_only_held_or_put_into_another(self):
        self.told("make y 1\nframe f\nmake x 1\nput y 0 x\nend\nget z y 0\ntell z\nsame z x", "ground", "f")
        self.told("make y 1\nframe f\nmake x 1\nput y 0 x\nend\nget z y 0\nget z z 0", "ground", "ground")

    def test_whatever_label_it_has(self):
        for label in ("", " in f", " in g", " in ground"):
            self.told(f"frame f\nframe g\nmake x 1{label}\nend\nput x 0 x\nend", "f")

    def test_no_other_makings_label_matters(self):
        for label in ("", " in f", " in ground"):
            self.told(f"frame f\nmake y 1{label}\nmake x 1\nput y 0 x\nend\nget z y 0\nget z z 0", "ground", "ground")

    def test_the_frame_of_the_turn(self):
        self.told("turns f 1 2\nmake x 1\nput x 0 x\nend", "f")
        # In the second turn what the first one made is touched.
        self.told("make x 1\nturns f 1 2\nput x 0 x\nmake x 1\nend", "ground", "ground")
        self.told("make x 1\nturns f 2 3\nput x 0 x\nmake x 1\nend", "ground", "f")
        self.told("make x 1\nturns f 2 3\nput x 0 x\nmake x 1\nend\nput x 0 x", "ground", "ground")
        self.told("frame g\nmake x 1\nturns f 1 2\nput x 0 x\nmake x 1\nend\nend", "g", "g")

    def test_two_turns_back(self):
        text = "make x 1\nmake y 1\nturns f {} 4\nput y 0 y\ncopy y x\nmake x 1\nend"
        self.told(text.format(2), "ground", "ground", "ground")
        self.told(text.format(3), "ground", "ground", "f")

    def test_by_some_choice_alone(self):
        text = "frame f\nmake x 1\nend\neither\nput x 0 x\nor\nend"
        self.told(text, "ground")
        self.alike(look(read_program(text)), {1: ("ground", ((True,), 4))})
        text = "frame f\nmake x 1\nend\neither\nor\neither\nor\nput x 0 x\nend\nend"
        self.alike(look(read_program(text)), {1: ("ground", ((False, False), 5))})

    def test_a_making_that_some_run_does(self):
        self.told("frame f\neither\nmake x 1\nor\nmake x 2\nend\nend\neither\nget y x 1\nor\nend", "f", "ground")

    def test_a_frame_that_does_not_end(self):
        self.told("frame f\nmake x 1\nput x 1 x\nend\nput x 0 x", "f")
        self.told("turns f 1 4\nmake x 1\nput x 0 x\nmore y y 1\nend", "f")

    def test_a_touch_at_which_the_run_stops_is_none(self):
        self.told("frame f\nmake x 1\nend\nput x 1 x", "f")
        self.told("frame f\nmake x 1\nend\nmore y x 1\nput x 0 x", "f")

    def test_in_the_step_of_the_end_nothing_is_touched(self):
        self.told("frame f\nmake x 1\nput x 0 x\nend", "f")

    def test_against_all_runs(self):
        kinds = set()
        for dice, program in thrown_programs(250):
            found = look(program)
            self.alike(list(found), program.makings())
            for number, row in found.items():
                label, shown = narrowest(program, number)
                self.alike(row[0], label)
                if shown:
                    self.assertIn(row[1], shown)
                self.paper(program, number, row)
                kinds.add(program.around(number).index(label))
        self.assertGreaterEqual(len(kinds), 3)

    def test_dicts_are_the_askers_own(self):
        program = read_program("frame f\nmake x 1\nend\nput x 0 x")
        before = copied(look(program))
        look(program).clear()
        self.alike(look(program), before)
        seen = seen_program(program)
        look(program)
        self.alike(seen_program(program), seen)


class ShowsNarrowest(Case):
    program = read_program(
        "either\nor\nend\nframe f\nturns g 1 2\nmake x 1\nmake y 1\nput x 0 y\nend\nend\neither\nput x 0 x\nget y x 0\nor\nend"
    )

    def test_as_it_is_told(self):
        told = look(self.program)
        self.alike([row[0] for row in told.values()], ["ground", "g"])
        for number, row in told.items():
            self.assertIs(shows_narrowest(self.program, number, row[0], row[1]), True)

    def test_the_number_is_any_thing(self):
        for thing in any_things() + [3, 4, 5, -3]:
            if type(thing) is int and thing in (3, 4):
                continue
            self.assertIs(shows_narrowest(self.program, thing, "g", None), False)

    def test_a_truth_is_no_number(self):
        program = read_program("make x 1\nmake x 1")
        for number in (0, 1):
            self.assertIs(shows_narrowest(program, number, "ground", None), True)
            self.assertIs(shows_narrowest(program, bool(number), "ground", None), False)

    def test_the_label_is_any_thing(self):
        for thing in any_things() + ["f", "ground", "x", "gg", ("g",), ["g"]]:
            self.assertIs(shows_narrowest(self.program, 4, thing, None), False)
        self.assertIs(shows_narrowest(self.program, 4, "g", None), True)

    def test_the_paper_is_any_thing(self):
        for thing in any_things():
            self.assertIs(shows_narrowest(self.program, 4, "g", thing), thing is None)
            self.assertIs(shows_narrowest(self.program, 3, "ground", thing), False)
            self.assertIs(shows_narrowest(self.program, 3, "ground", (thing, 13)), False)
            self.assertIs(shows_narrowest(self.program, 3, "ground", ((False, True), thing)), False)
            self.assertIs(shows_narrowest(self.program, 3, "ground", ((False, True, thing), 13)), type(thing) is bool)

    def test_the_form_of_the_paper(self):
        good = ((False, True), 13)
        self.alike(free_run(self.program, good[0]).deeds()[13], 7)
        self.assertIs(shows_narrowest(self.program, 3, "ground", good), True)
        for paper in (
            [(False, True), 13], ([False, True], 13), ((False, 1), 13), ((0, True), 13), ((False, True), 13, 0),
            ((False, True),), ((False, True), True), ((False, True), "13"), (13, (False, True)), ((None, True), 13),
            {(False, True): 13}, "", ((False, True), 13, None), ("yn", 13),
        ):
            self.assertIs(shows_narrowest(self.program, 3, "ground", paper), False)

    def test_choices_of_any_length(self):
        for choices, right in (
            ((True, True), True), ((False, True, False), True), ((True, True, True, True, True, True), True),
            ((), False), ((True,), False), ((True, False, True), False), ((False,), False),
        ):
            self.assertIs(shows_narrowest(self.program, 3, "ground", (choices, 13)), right)
        short = read_program("frame f\nmake x 1\nend\neither\nor\nput x 0 x\nend")
        for choices in ((), (False,), (False, True)):
            self.assertIs(shows_narrowest(short, 1, "ground", (choices, 4)), True)
        self.assertIs(shows_narrowest(short, 1, "ground", ((True,), 4)), False)

    def test_the_step(self):
        for step in range(-2, 20):
            self.assertIs(shows_narrowest(self.program, 3, "ground", ((True, True), step)), step in (13, 14))

    def test_a_touch_ahead_of_the_end_shows_nothing(self):
        program = read_program("frame f\nframe g\nmake x 1\nput x 0 x\nend\nput x 0 x\nend\nput x 0 x")
        for step in range(9):
            # By 5 it is shown for g, but not for f, which is the next inner one.
            self.assertIs(shows_narrowest(program, 2, "ground", ((), step)), step == 7)
            self.assertIs(shows_narrowest(program, 2, "f", ((), step)), False)
            self.assertIs(shows_narrowest(program, 2, "g", ((), step)), False)
        for label in ("f", "g", "ground"):
            self.assertIs(shows_narrowest(program, 2, label, None), False)

    def test_another_making_is_touched(self):
        program = read_program("frame f\nmake x 1\nmake y 1\nend\nput x 0 y\nput y 0 x")
        self.alike([shows_narrowest(program, 1, "ground", ((), step)) for step in range(7)], [False] * 4 + [True, False, False])
        self.alike([shows_narrowest(program, 2, "ground", ((), step)) for step in range(7)], [False] * 5 + [True, False])

    def test_against_all_papers(self):
        for dice, program in thrown_programs(14):
            for number in program.makings():
                label, shown = narrowest(program, number)
                for other in program.around(number):
                    self.assertIs(shows_narrowest(program, number, other, None), other == label and not shown)
                for choices in all_choices(program):
                    step = dice.below(program.longest() + 1)
                    for at in {step, 0} | {paper[1] for paper in shown if paper[0] == choices}:
                        right = (choices, at) in shown
                        self.assertIs(shows_narrowest(program, number, label, (choices, at)), right)


class Placed(Case):
    def test_labels(self):
        program = read_program("frame f\nframe g\nmake x 1 in ground\nmake y 1 in f\nend\nput y 0 y\nend\nmake z 1 in ground")
        told = placed(program)
        self.assertIs(type(told), Program)
        self.alike(show_program(told), "frame f\nframe g\nmake x 1\nmake y 1 in f\nend\nput y 0 y\nend\nmake z 1")
        program = read_program("frame f\nmake x 1\nend\nput x 0 x")
        self.alike(show_program(placed(program)), "frame f\nmake x 1 in ground\nend\nput x 0 x")

    def test_in_turns_and_eithers(self):
        text = "turns f 1 2\neither\nmake x 1{}\nor\nmake x 2{}\nend\nend\neither\nget y x 1\nor\nend"
        program = read_program(text.format(" in ground", ""))
        self.alike(show_program(placed(program)), text.format("", " in ground"))

    def test_all_else_as_it_was(self):
        for dice, program in thrown_programs(120):
            before = seen_program(program)
            told = placed(program)
            found = look(program)
            elder, newer = flat(program.told()), flat(told.told())
            self.assertEqual(len(elder), len(newer))
            for number, (one, two) in enumerate(zip(elder, newer)):
                if one[0] == "make":
                    label = found[number][0]
                    inner = label == program.around(number)[0]
                    self.alike(two, one[:3] + (None if inner else label,))
                elif one[0] not in ("frame", "turns", "either"):
                    self.alike(one, two)
            # With all labels as they were it is the same program.
            marks = [elder[number][3] for number in program.makings()]
            self.alike(seen_program(with_labels(told, marks)), before)
            self.alike(seen_program(program), before)
            self.alike(look(told), found)
            self.alike(placed(told).told(), told.told())

    def test_no_plain_run_ends_with_gone(self):
        for dice, program in thrown_programs(200):
            told = placed(program)
            self.assertIsNone(unsafe(told))
            for choices in all_choices(program):
                run, free = run_plain(told, choices), free_run(program, choices)
                self.alike((run.told(), run.ending(), run.long()), (free.told(), free.ending(), free.long()))

    def test_no_more_is_used_than_by_other_labels_that_are_safe(self):
        held = 0
        for dice, program in thrown_programs(120):
            many = math.prod(len(program.around(number)) for number in program.makings())
            if many * len(all_choices(program)) > 200:
                continue
            told = placed(program)
            for some in all_labels(program):
                other = with_labels(program, some)
                if not is_safe(other):
                    continue
                held += 1
                for choices in all_choices(program):
                    least, used = run_plain(told, choices).used(), run_plain(other, choices).used()
                    self.assertEqual(len(least), len(used))
                    self.assertTrue(all(one <= two for one, two in zip(least, used)))
        self.assertGreater(held, 100)

    def test_the_next_narrower_label_is_not_safe(self):
        for dice, program in thrown_programs(80):
            told = placed(program)
            labels = [row[0] for row in look(program).values()]
            for place, number in enumerate(program.makings()):
                around = program.around(number)
                for inner in around[:around.index(labels[place])]:
                    self.assertFalse(is_safe(with_labels(told, labels[:place] + [inner] + labels[place + 1:])))


class Unsafe(Case):
    def test_none(self):
        for text in ("", "make x 1\nput x 0 x", "frame f\nmake x 1\nput x 0 x\nend\ntell x", "put x 0 x"):
            self.assertIsNone(unsafe(read_program(text)))

    def test_a_run(self):
        self.alike(unsafe(read_program("frame f\nmake x 1\nend\nput x 0 x")), ((), 3))
        self.alike(unsafe(read_program("frame f\nmake x 1\nend\neither\nput x 0 x\nor\nend")), ((True,), 4))

    def test_by_its_own_labels(self):
        self.assertIsNone(unsafe(read_program("frame f\nmake x 1 in ground\nend\nput x 0 x")))

    def test_a_run_that_stops_ahead_of_it(self):
        self.assertIsNone(unsafe(read_program("frame f\nmake x 1\nend\nput y 0 x\nput x 0 x")))
        self.assertIsNone(unsafe(read_program("frame f\nmake x 1\nend\nput x 1 x")))

    def test_against_all_runs(self):
        met = set()
        for dice, program in thrown_programs(200):
            ends = {choices: Model(program.told(), choices, 1000, "plain").ending for choices in all_choices(program)}
            gone = [(choices, ending[1]) for choices, ending in ends.items() if ending[0] == "gone"]
            told = unsafe(program)
            met.add(told is None)
            if gone:
                self.assertIn(told, gone)
                self.assertIs(type(told[0]), tuple)
                self.assertIs(type(told[1]), int)
            else:
                self.assertIsNone(told)
        self.assertEqual(met, {True, False})


class Most(Case):
    def test_no_step(self):
        self.alike(most(read_program("")), (0, (), None))

    def test_nothing_used(self):
        self.alike(most(read_program("tell x")), (0, (), 0))
        told = most(read_program("either\nor\nend"))
        self.assertEqual((told[0], told[2]), (0, 0))
        self.assertIn(told[1], [(), (False,), (True,)])

    def test_the_greatest_of_all_runs(self):
        self.alike(most(read_program("make x 2\nmake x 3"))[:1], (5,))
        told = most(read_program("either\nmake x 6\nor\nframe f\nmake x 5\nend\nmake x 4\nend"))
        self.alike(told, (6, (True,), 1))
        told = most(read_program("either\nmake x 6\nor\nframe f\nmake x 5\nmake x 2\nend\nmake x 4\nend"))
        self.alike(told, (7, (False,), 3))

    def test_up_to_what_is_gone(self):
        self.alike(most(read_program("frame f\nmake x 3\nend\nput x 0 x\nmake x 6\nmake x 6"))[0], 3)

    def test_against_all_runs(self):
        for dice, program in thrown_programs(200):
            sums = {choices: Model(program.told(), choices, 1000, "plain").used for choices in all_choices(program)}
            told = most(program)
            self.assertEqual(told[0], max(max(row) for row in sums.values()))
            self.assertEqual(sums[told[1]][told[2]], told[0])
            self.assertIs(type(told[1]), tuple)
            self.assertIs(type(told[2]), int)


if __name__ == "__main__":
    unittest.main()
