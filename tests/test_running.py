"""Points [81] to [85], and framerooms/running.py in the interface."""

import itertools
import unittest

from framerooms.errors import NoChoices
from framerooms.programs import Program
from framerooms.progtext import read_program
from framerooms.running import Run, all_choices, free_run
from tests.helper import LONG, Case, any_things, copied, refusal, seen_program, seen_run, thrown_programs
from tests.model import Model

BAD_CHOICES = [
    None, 0, 1, True, False, "", "yn", {}, {True: False}, [None], [0], [1], (0, 1), [True, 1], (False, None), ["True"],
    [[True]], ((True,),), [True] * 9 + [0],
]


def run_of(text, choices=()):
    return free_run(read_program(text), choices)


class Choices(Case):
    def test_all_of_them(self):
        for many in range(5):
            told = all_choices(Program([("either", [], [])] * many))
            self.alike(told, list(itertools.product((False, True), repeat=many)))

    def test_so_many_as_the_widest_run_asks(self):
        program = read_program("either\neither\nor\nend\nor\nend")
        self.alike(all_choices(program), [(False, False), (False, True), (True, False), (True, True)])
        self.alike(all_choices(read_program("turns f 1 0\neither\nor\nend\nend")), [()])

    def test_lists_are_the_askers_own(self):
        program = Program([("either", [], [])])
        all_choices(program).append("no")
        self.alike(all_choices(program), [(False,), (True,)])

    def test_what_is_none(self):
        for program in (Program([]), read_program("put x 0 x"), read_program("either\nor\nend")):
            for thing in any_things() + BAD_CHOICES:
                if type(thing) in (list, tuple) and all(type(each) is bool for each in thing):
                    continue
                self.assertIs(refusal(self, NoChoices, free_run, program, thing).found, thing)

    def test_lists_and_tuples(self):
        program = read_program("either\nset x 1\nor\nset x 2\nend\ntell x")
        for choices, told in (
            ([True], [1]), ((True,), [1]), ([False], [2]), ((False,), [2]), ([], [2]), ((), [2]),
            ([True, False, True], [1]), ((False, True, True), [2]),
        ):
            self.alike(free_run(program, choices).told(), told)

    def test_the_first_either_takes_the_first(self):
        text = "either\nset x 1\neither\ntell x\nor\nend\nor\nset x 2\nend\neither\ntell x\nor\nset x 3\nend\ntell x"
        for choices, told, taken in (
            ((), [3], [False, False]), ((False, True), [2, 2], [False, True]), ((True,), [3], [True, False, False]),
            ((True, True), [1, 3], [True, True, False]), ((True, False, True), [1, 1], [True, False, True]),
            ((True, True, True, True), [1, 1, 1], [True, True, True]), ((False, False, True), [3], [False, False]),
        ):
            run = run_of(text, choices)
            self.alike(run.told(), told)
            self.alike(run.taken(), taken)

    def test_each_turn_asks_anew(self):
        text = "set x 0\nturns f 1 3\neither\nmore x x 1\nor\nmore x x 10\nend\nend\ntell x"
        for choices in itertools.product((False, True), repeat=3):
            run = run_of(text, choices)
            self.alike(run.told(), [sum(1 if choice else 10 for choice in choices)])
            self.alike(run.taken(), list(choices))


class Steps(Case):
    def steps(self, text, deeds, choices=()):
        run = run_of(text, choices)
        self.alike(run.ending(), ("done",))
        self.alike(run.deeds(), deeds)
        self.alike(run.long(), len(deeds))

    def test_nothing(self):
        self.alike(seen_run(run_of("")), ([], ("done",), 0, [], [], [], []))

    def test_deeds_without_bodies(self):
        self.steps("tell x\nset x 1\nmake y 1\ncopy y x\nsame x y\nmore x x 1", [0, 1, 2, 3, 4, 5])

    def test_frames(self):
        self.steps("frame f\nend", [0, 0])
        self.steps("tell x\nframe f\ntell x\nframe g\ntell x\nend\nend\ntell x", [0, 1, 2, 3, 4, 3, 1, 5])

    def test_turns(self):
        self.steps("turns f 1 0\ntell x\nend\ntell x", [0, 2])
        self.steps("turns f 1 1\nend", [0, 0])
        self.steps("turns f 2 3\ntell x\ntell x\nend", [0, 1, 2, 0, 1, 2, 0, 1, 2, 0])
        self.steps("turns f 1 2\nturns g 1 2\ntell x\nend\nend", [0, 1, 2, 1, 2, 1, 0, 1, 2, 1, 2, 1, 0])

    def test_eithers(self):
        text = "either\ntell x\ntell x\nor\neither\nor\ntell x\nend\nend\ntell x"
        self.steps(text, [0, 3, 4, 5])
        self.steps(text, [0, 3, 5], (False, True))
        self.steps(text, [0, 1, 2, 5], (True,))
        self.steps("either\nor\nend", [0], (True,))

    def test_as_many_as_the_longest(self):
        run = run_of("\n".join(["turns f 3 4"] + ["tell x"] * 23 + ["end", "tell x", "tell x", "tell x"]))
        self.alike(run.long(), 100)
        self.alike(run.told(), [None] * 95)

    def test_six_hundred_cells_and_no_end(self):
        run = run_of("\n".join(["turns f 3 4"] + ["make x 6"] * 23 + ["end"] + ["make x 6"] * 3))
        self.alike(run.ending(), ("done",))
        self.alike([thing[1] for thing in run.things()], [6] * 95)


class Doings(Case):
    def told(self, text, told, choices=()):
        run = run_of(text, choices)
        self.alike(run.ending(), ("done",))
        self.alike(run.told(), told)

    def test_at_first_none(self):
        self.told("tell x\nsame x y\ncopy z x\ntell z", [None, True, None])

    def test_set_copy_more(self):
        self.told("set x 3\ntell x\nset x none\ntell x\nset x 0\ntell x", [3, None, 0])
        self.told("set x 3\ncopy y x\nset x 4\ntell y\ntell x", [3, 4])
        self.told("set x 3\nmore y x 4\ntell y\ntell x\nmore x x -5\ntell x\nmore x x 0\ntell x", [7, 3, -2, -2])
        self.told(f"set x {LONG}\nmore x x {LONG}\nmore x x 1\ntell x", [2 * LONG + 1])

    def test_make_and_tell(self):
        self.told("make x 2\ntell x\ncopy y x\ntell y", ["thing", "thing"])

    def test_cells_hold_none_at_first(self):
        self.told("make x 2\nget y x 0\ntell y\nset y 1\nget y x 1\ntell y", [None, None])

    def test_put_and_get(self):
        self.told("make x 6\nset y 7\nput x 5 y\nset y 8\nput x 0 y\nget z x 5\ntell z\nget z x 0\ntell z", [7, 8])
        self.told("make x 1\nset y 7\nput x 0 y\nset y none\nput x 0 y\nget z x 0\ntell z", [None])

    def test_a_thing_is_shared_not_copied(self):
        self.told("make x 1\ncopy y x\nset z 4\nput x 0 z\nget w y 0\ntell w", [4])
        self.told("make x 1\nmake y 1\nput x 0 y\nset z 4\nput y 0 z\nget v x 0\nget w v 0\ntell w", [4])

    def test_a_thing_in_itself(self):
        self.told("make x 1\nput x 0 x\nget y x 0\nsame x y\nget x x 0\nsame x y", [True, True])

    def test_get_and_put_by_one_name(self):
        self.told("make x 1\nset y 3\nput x 0 y\nget x x 0\ntell x", [3])

    def test_same(self):
        self.told("make x 1\nmake y 1\nsame x y\ncopy z x\nsame x z\nsame x x", [False, True, True])
        self.told("set x 1\nset y 1\nsame x y\nset y 2\nsame x y\nset y none\nsame x y\nsame z y", [True, False, False, True])
        self.told("make x 1\nset y 0\nsame x y\nsame y x\nsame x z\nsame z y", [False] * 4)
        self.told(f"set x {LONG}\nset y {LONG - 1}\nmore y y 1\nsame x y", [True])

    def test_a_thing_outlives_its_frame_here(self):
        self.told("frame f\nmake x 1\nset y 5\nput x 0 y\nend\nget z x 0\ntell z", [5])
        self.told("turns f 1 3\nmake x 1\nput x 0 y\ncopy y x\nend\nget z x 0\nget z z 0\nget w z 0\ntell w", [None])

    def test_turns_again_and_again(self):
        self.told("set x 0\nturns f 2 4\nturns g 1 3\nmore x x 1\nend\nend\ntell x", [12])


class Endings(Case):
    def stops(self, text, ending, choices=()):
        run = run_of(text, choices)
        self.alike(run.ending(), ending)
        self.alike(run.long(), ending[1] + 1)
        self.alike(len(run.deeds()), ending[1] + 1)
        self.alike(run.deeds()[-1], ending[2])
        return run

    def test_thing(self):
        self.stops("put x 0 y", ("stopped", 0, 0, "thing", "x"))
        self.stops("make y 1\nput x 0 y", ("stopped", 1, 1, "thing", "x"))
        self.stops("get x y 0", ("stopped", 0, 0, "thing", "y"))
        self.stops("make x 1\nget x y 0", ("stopped", 1, 1, "thing", "y"))
        self.stops("set x 0\nput x 0 y", ("stopped", 1, 1, "thing", "x"))
        self.stops("set x 5\nget y x 0", ("stopped", 1, 1, "thing", "x"))

    def test_cell(self):
        for size in range(1, 7):
            for k in range(6):
                if k >= size:
                    self.stops(f"make x {size}\nput x {k} y", ("stopped", 1, 1, "cell", k))
                    self.stops(f"make x {size}\nget y x {k}", ("stopped", 1, 1, "cell", k))
                else:
                    self.alike(run_of(f"make x {size}\nput x {k} y\nget y x {k}").ending(), ("done",))

    def test_number(self):
        self.stops("more x y 1", ("stopped", 0, 0, "number", "y"))
        self.stops("set x 1\nmore x y 1", ("stopped", 1, 1, "number", "y"))
        self.stops("make y 1\nmore x y 1", ("stopped", 1, 1, "number", "y"))
        self.stops("more x x 0", ("stopped", 0, 0, "number", "x"))

    def test_thing_ahead_of_cell(self):
        self.stops("put x 5 y", ("stopped", 0, 0, "thing", "x"))

    def test_nothing_is_done_in_the_last_step(self):
        run = self.stops("make x 1\nset y 1\nput x 1 y\ntell x", ("stopped", 2, 2, "cell", 1))
        self.alike(seen_run(run), (
            [], ("stopped", 2, 2, "cell", 1), 3, [0, 1, 2], [], [(0, 1, 0)], [],
        ))

    def test_nothing_behind_it(self):
        run = self.stops("tell x\nframe f\nput x 0 x\nend\ntell x\neither\nor\nend", ("stopped", 2, 2, "thing", "x"))
        self.alike(run.told(), [None])
        self.alike(run.taken(), [])

    def test_in_the_midst_of_turns(self):
        text = "make x 2\nset n 0\nturns f 1 4\nput x 0 n\nget n x 1\nmore n n 1\nend"
        self.stops(text, ("stopped", 5, 5, "number", "n"))
        text = "make x 1\nturns f 1 3\nget x x 0\nend"
        run = self.stops(text, ("stopped", 4, 2, "thing", "x"))
        self.alike(run.deeds(), [0, 1, 2, 1, 2])

    def test_by_the_choices(self):
        text = "either\nor\nget x x 0\nend\ntell x"
        self.alike(run_of(text, (True,)).ending(), ("done",))
        self.stops(text, ("stopped", 1, 1, "thing", "x"), (False,))
        self.alike(run_of(text, (False, True)).taken(), [False])


class Told(Case):
    def test_things_and_touches(self):
        run = run_of("make x 2\nturns f 1 2\nmake y 3\nput x 1 y\nput y 0 x\nend\nget z x 1\nget z z 0\nget z z 0")
        self.alike(run.deeds(), [0, 1, 2, 3, 4, 1, 2, 3, 4, 1, 5, 6, 7])
        self.alike(run.things(), [(0, 2, 0), (2, 3, 2), (2, 3, 6)])
        self.alike(run.touches(), [(3, 0), (4, 1), (7, 0), (8, 2), (10, 0), (11, 2), (12, 0)])

    def test_what_is_not_touched(self):
        run = run_of("make x 1\nmake y 1\ncopy z x\ntell z\nsame x y\nput y 0 x\nget w y 0\ntell w\nset x 1\nmore x x 1")
        self.alike(run.things(), [(0, 1, 0), (1, 1, 1)])
        self.alike(run.touches(), [(5, 1), (6, 1)])

    def test_lists_are_the_askers_own(self):
        run = run_of("either\nor\nend\nmake x 1\nput x 0 x\ntell x")
        before = copied(seen_run(run))
        for deed in (run.told, run.deeds, run.taken, run.things, run.touches):
            self.assertIsNot(deed(), deed())
            deed().append("no")
            deed().clear()
        self.alike(seen_run(run), before)

    def test_nothing_handed_in_is_changed(self):
        program = read_program("either\nor\nend\neither\nmake x 1\nor\nend\nput x 0 x")
        before = seen_program(program)
        choices = [True, True, False]
        run = free_run(program, choices)
        self.alike(choices, [True, True, False])
        seen = seen_run(run)
        choices.clear()
        self.alike(seen_run(run), seen)
        self.alike(seen_program(program), before)

    def test_a_run_is_a_run(self):
        self.assertIs(type(run_of("")), Run)

    def test_no_run_knows_of_another(self):
        program = read_program("make x 1\nput x 0 x\ntell x")
        first = seen_run(free_run(program, ()))
        self.alike(seen_run(free_run(program, ())), first)
        self.alike(first[5], [(0, 1, 0)])


class Against(Case):
    def test_another_way_to_run(self):
        for dice, program in thrown_programs(250):
            for choices in all_choices(program):
                # Less choices than are asked, and more.
                for some in {choices, choices[:dice.below(4)], choices + (True, False)}:
                    self.alike(seen_run(free_run(program, some)), Model(program.told(), some).free())

    def test_within_the_bounds_that_are_told(self):
        for dice, program in thrown_programs(100):
            for choices in all_choices(program):
                run = free_run(program, choices)
                self.assertLessEqual(run.long(), program.longest())
                self.assertLessEqual(len(run.taken()), program.widest())
                self.alike(run.taken(), list(choices[:len(run.taken())]))


if __name__ == "__main__":
    unittest.main()
