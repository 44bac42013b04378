"""Points [91] to [95] and [7], and framerooms/inframes.py in the interface."""

import unittest

from framerooms.errors import NoChoices, NoManner, NoNumber
from framerooms.inframes import Framed, run_in
from framerooms.programs import Program
from framerooms.progtext import read_program
from framerooms.running import all_choices, free_run
from tests.helper import Case, any_things, copied, refusal, seen_framed, seen_program, thrown_programs
from tests.model import Model
from tests.test_running import BAD_CHOICES

MANNERS = ("plain", "caught", "moved")


def run_of(text, manner="plain", limit=1000, choices=()):
    return run_in(read_program(text), choices, limit, manner)


class Refused(Case):
    program = read_program("either\nput x 0 x\nor\nend")

    def test_choices(self):
        for thing in any_things() + BAD_CHOICES:
            if type(thing) in (list, tuple) and all(type(each) is bool for each in thing):
                continue
            self.assertIs(refusal(self, NoChoices, run_in, self.program, thing, 10, "plain").found, thing)

    def test_how_many_cells(self):
        for thing in any_things() + [0, -1, 1001, "10", True]:
            if type(thing) is int and 1 <= thing <= 1000:
                continue
            self.assertIs(refusal(self, NoNumber, run_in, self.program, (), thing, "plain").found, thing)
        for limit in (1, 2, 999, 1000):
            self.alike(run_in(self.program, (), limit, "plain").ending(), ("done",))

    def test_the_manner(self):
        for thing in any_things() + ["Plain", "plain ", " moved", "free", "caugh", "movedd", ["plain"], ("plain",)]:
            self.assertIs(refusal(self, NoManner, run_in, self.program, (), 10, thing).found, thing)

    def test_in_their_order(self):
        wrong = [1]
        self.assertIs(refusal(self, NoChoices, run_in, self.program, wrong, 0, "no").found, wrong)
        self.assertIs(refusal(self, NoChoices, run_in, self.program, wrong, 10, "no").found, wrong)
        self.assertIs(refusal(self, NoChoices, run_in, self.program, wrong, 0, "plain").found, wrong)
        self.alike(refusal(self, NoNumber, run_in, self.program, (), 0, "no").found, 0)
        self.alike(refusal(self, NoNumber, run_in, self.program, (), 1001, wrong).found, 1001)

    def test_choices_as_in_runs_without_end(self):
        text = "either\nset x 1\nor\nset x 2\nend\neither\ntell x\nor\ntell x\ntell x\nend"
        for manner in MANNERS:
            for choices, told in (
                ((), [2, 2]), ([True], [1, 1]), ((False, True), [2]), ([True, True, False, True], [1]),
            ):
                self.alike(run_of(text, manner, 5, choices).told(), told)


class Lying(Case):
    def gone(self, text, *steps):
        """The steps at which the things went."""
        for manner in MANNERS:
            run = run_of(text, manner)
            self.alike(run.ending(), ("done",))
            self.alike([stay[2] for stay in run.stays()], list(steps))

    def test_on_the_ground(self):
        self.gone("make x 1\nmake x 1 in ground\nframe f\nend", None, None)

    def test_in_the_innermost(self):
        self.gone("frame f\nmake x 1\nmake x 1 in f\nset x 0\nend\ntell x", 4, 4)
        self.gone("frame f\nframe g\nmake x 1\nset x 0\nend\nset x 0\nend", 4)
        self.gone("frame f\nframe g\nend\nmake x 1\nset x 0\nend", 5)
        self.gone("frame f\neither\nor\nmake x 1\nend\nset x 0\nend", 4)

    def test_in_one_around(self):
        text = "frame f\nframe g\nframe h\nmake x 1 in {}\nset x 0\nend\nend\nend"
        for label, step in (("h", 5), ("g", 6), ("f", 7), ("ground", None)):
            self.gone(text.format(label), step)

    def test_in_the_turn_that_was_begun_last(self):
        self.gone("turns f 1 3\nmake x 1\nset x 0\nend", 3, 6, 9)
        self.gone("turns f 2 3\nmake x 1\nset x 0\nend", 6, 9, 9)
        self.gone("turns f 3 4\nmake x 1 in f\nset x 0\nend", 9, 12, 12, 12)
        self.gone("turns f 1 2\nframe g\nmake x 1 in f\nset x 0\nend\nend", 5, 10)
        self.gone("turns f 2 2\nframe g\nmake x 1 in g\nset x 0\nend\nend", 4, 9)
        self.gone("frame f\nturns g 1 2\nmake x 1 in f\nset x 0\nend\nend", 8, 8)

    def test_the_same_label_again(self):
        self.gone("frame f\nmake x 1 in f\nset x 0\nend\nframe f\nmake x 1 in f\nset x 0\nend", 3, 7)


class Used(Case):
    def test_behind_each_step(self):
        text = "make x 2\nframe f\nmake y 3\nframe g\nmake y 6\nmake y 1 in ground\nset y 0\nend\nmake y 4\nset y 0\nend"
        for manner in MANNERS:
            run = run_of(text, manner)
            self.alike(run.ending(), ("done",))
            self.alike(run.used(), [2, 2, 5, 5, 11, 12, 12, 6, 10, 10, 3])
            self.alike(run.greatest(), (12, 5))
            self.alike(run.long(), 11)

    def test_turns(self):
        text = "turns f {} 4\nmake x 2\nset x 0\nend"
        for many, used in (
            (1, [0, 2, 2, 0, 2, 2, 0, 2, 2, 0, 2, 2, 0]), (2, [0, 2, 2, 2, 4, 4, 2, 4, 4, 2, 4, 4, 0]),
            (3, [0, 2, 2, 2, 4, 4, 4, 6, 6, 4, 6, 6, 0]),
        ):
            for manner in MANNERS:
                run = run_of(text.format(many), manner)
                self.alike(run.used(), used)
                self.alike(run.greatest(), (max(used), used.index(max(used))))

    def test_no_step(self):
        for manner in MANNERS:
            self.alike(seen_framed(run_of("", manner)), ([], ("done",), 0, [], (0, None), []))

    def test_nothing_used(self):
        self.alike(run_of("tell x\ntell x").greatest(), (0, 0))
        self.alike(run_of("turns f 1 0\nmake x 1\nend").used(), [0])

    def test_the_first_step_of_the_greatest(self):
        self.alike(run_of("make x 1\ntell x\ntell x").greatest(), (1, 0))

    def test_the_last_step_too(self):
        run = run_of("make x 1\nput x 1 x")
        self.alike(run.used(), [1, 1])
        run = run_of("frame f\nmake x 1\nend\nput x 0 x")
        self.alike(run.used(), [0, 1, 0, 0])
        run = run_of("make x 2\nmake x 2", "plain", 3)
        self.alike(run.used(), [2, 2])


class Endings(Case):
    def test_gone(self):
        run = run_of("frame f\nmake x 1\nput x 0 x\nend\ntell x\nget y x 0\ntell x")
        self.alike(seen_framed(run), (
            ["thing"], ("gone", 5, 4, 0), 6, [0, 1, 1, 0, 0, 0], (1, 1), [(1, 2, 3)],
        ))
        run = run_of("make z 1\nframe f\nmake x 1\nend\nput x 0 z")
        self.alike(run.ending(), ("gone", 4, 3, 1))

    def test_only_a_touch_of_its_own_cells(self):
        text = "make z 1\nframe f\nmake x 1\nend\ntell x\nsame x z\ncopy y x\nsame x y\nput z 0 x\nget w z 0\nsame w x"
        run = run_of(text)
        self.alike(run.ending(), ("done",))
        self.alike(run.told(), ["thing", False, True, True])
        self.alike(run_of(text + "\nget v w 0").ending(), ("gone", 11, 10, 1))

    def test_another_stop_ahead_of_gone(self):
        # A touch that can't be done is none of what is gone.
        self.alike(run_of("frame f\nmake x 1\nend\nput x 1 x").ending(), ("stopped", 3, 2, "cell", 1))
        self.alike(run_of("frame f\nmake x 2\nend\nget y x 2").ending(), ("stopped", 3, 2, "cell", 2))
        self.alike(run_of("frame f\nmake x 1\nend\nput y 0 x").ending(), ("stopped", 3, 2, "thing", "y"))
        self.alike(run_of("frame f\nmake x 1\nend\nmore y x 1").ending(), ("stopped", 3, 2, "number", "x"))

    def test_gone_in_turns(self):
        text = "turns f {} 4\nmake x 1\nput x 0 y\nget z x 0\ncopy y x\nend"
        run = run_of(text.format(1))
        self.alike(run.ending(), ("done",))
        text = "make y 1\nturns f {} 4\nmake x 1\nput x 0 y\nput y 0 y\ncopy y x\nend"
        self.alike(run_of(text.format(1)).ending(), ("gone", 9, 4, 1))
        self.alike(run_of(text.format(2)).ending(), ("done",))

    def test_kept_by_a_name(self):
        run = run_of("frame f\nmake x 1\nmake y 1\nend\ntell x", "caught")
        self.alike(seen_framed(run), (
            [], ("kept", 3, 0, (0, 1)), 4, [0, 1, 2, 2], (2, 2), [(1, None, None), (2, None, None)],
        ))

    def test_kept_by_a_cell(self):
        text = "make z 2\nframe f\nmake x 1\nmake y 1\nput z 1 y\nput y 0 x\nset x 0\nset y 0\nend"
        self.alike(run_of(text, "caught").ending(), ("kept", 8, 1, (1, 2)))
        text = "make z 2\nframe f\nmake x 1\nmake y 1\nput z 1 y\nput x 0 y\nset x 0\nset y 0\nend"
        self.alike(run_of(text, "caught").ending(), ("kept", 8, 1, (2,)))

    def test_not_kept_from_within(self):
        text = "frame f\nmake x 1\nmake y 1\nput x 0 y\nput y 0 x\nset x 0\nset y 0\nend"
        self.alike(run_of(text, "caught").ending(), ("done",))

    def test_kept_things_rise(self):
        text = "frame f\nmake x 1\nmake y 1\nmake a 1\nput a 0 x\nset x 0\nend"
        self.alike(run_of(text, "caught").ending(), ("kept", 6, 0, (0, 1, 2)))

    def test_the_eldest_of_turns_is_kept(self):
        text = "turns f 2 4\nmake x 2\nput x 0 y\ncopy y x\nend"
        run = run_of(text, "caught")
        self.alike(run.ending(), ("kept", 8, 0, (0,)))
        self.alike(run.used(), [0, 2, 2, 2, 2, 4, 4, 4, 4])

    def test_what_was_ended_ahead_of_the_kept_one_stays_ended(self):
        text = "turns f 3 3\nmake y 2\neither\nmake x 1\nor\nend\nset y 0\nend\ntell x"
        run = run_of(text, "caught", 1000, (True, False, False))
        self.alike(run.ending(), ("kept", 13, 0, (1,)))
        self.alike(run.used(), [0, 2, 2, 3, 3, 3, 5, 5, 5, 5, 7, 7, 7, 3])
        self.alike(run.stays(), [(1, None, None), (3, None, None), (6, None, 13), (10, None, 13)])
        self.alike(run.told(), [])
        run = run_of(text, "caught", 1000, (False, False, True))
        self.alike(run.ending(), ("kept", 13, 0, (3,)))
        self.alike(run.used()[-2:], [7, 7])

    def test_those_that_still_stand_count_as_outside(self):
        text = "turns f 2 2\nmake x 1\nput x 0 y\ncopy y x\nend"
        # The second holds the first, which is kept by nobody when the second has gone.
        self.alike(run_of(text + "\nset x 0", "caught").ending(), ("kept", 8, 0, (1,)))
        text = "turns f 2 2\nmake x 1\nput x 0 y\ncopy y x\neither\nset x 0\nset y 0\nor\nend\nend"
        self.alike(run_of(text, "caught", 1000, (False, True)).ending(), ("done",))
        # The first holds the second, so this one is kept.
        text = "turns f 2 2\nmake x 1\neither\ncopy y x\nor\nput y 0 x\nset y 0\nend\nset x 0\nend"
        self.alike(run_of(text, "caught", 1000, (True, False)).ending(), ("kept", 11, 0, (1,)))

    def test_full(self):
        for manner in MANNERS:
            run = run_of("make x 3\nframe f\nmake y 4\ntell y\nend", manner, 6)
            self.alike(seen_framed(run), ([], ("full", 2, 2, 3), 3, [3, 3, 3], (3, 0), [(0, None, None)]))
            run = run_of("make x 3\nframe f\nmake y 4\nset y 0\nend", manner, 7)
            self.alike(run.ending(), ("done",))
            self.alike(run_of("make x 1\nmake x 1", manner, 1).ending(), ("full", 1, 1, 0))

    def test_room_comes_back(self):
        for manner in MANNERS:
            text = "frame f\nmake x 4\nset x 0\nend\nmake x 4"
            self.alike(run_of(text, manner, 4).ending(), ("done",))
            self.alike(run_of(text, manner, 3).ending(), ("full", 1, 1, 3))
            text = "turns f 2 4\nmake x 2\nset x 0\nend"
            self.alike(run_of(text, manner, 4).ending(), ("done",))
            self.alike(run_of(text, manner, 3).ending(), ("full", 4, 1, 1))

    def test_done_and_stopped_as_without_frames(self):
        for manner in MANNERS:
            self.alike(run_of("frame f\nset x 1\nput x 0 x\nend", manner).ending(), ("stopped", 2, 2, "thing", "x"))


class Moved(Case):
    def test_to_the_frame_around(self):
        text = "frame f\nframe g\nmake x 1\nmake y 2\nset z 7\nput x 0 z\nend\nset y 0\nend\nget z x 0\ntell z"
        run = run_of(text, "moved")
        self.alike(seen_framed(run), (
            [7], ("done",), 11, [0, 0, 1, 3, 3, 3, 3, 3, 1, 1, 1], (3, 3), [(2, 9, None), (3, None, 8)],
        ))

    def test_a_label_tells_from_where_it_is_moved(self):
        run = run_of("frame f\nframe g\nmake x 1 in f\nend\nend\nframe f\nend\nput x 0 x", "moved")
        self.alike(run.ending(), ("done",))
        self.alike(run.stays(), [(2, 7, None)])
        run = run_of("frame f\nframe g\nmake x 1 in g\nend\nset x 0\nend", "moved")
        self.alike(run.stays(), [(2, None, 5)])

    def test_with_all_that_it_leads_to(self):
        text = "frame f\nmake x 1\nmake y 1\nmake z 1\nput x 0 y\nput y 0 x\nset y 0\nset z 0\nend\n"
        text += "get y x 0\nsame x y\nget z y 0\nsame x z"
        run = run_of(text, "moved")
        self.alike(run.told(), [False, True])
        self.alike(run.used()[7:9], [3, 2])
        self.alike([stay[2] for stay in run.stays()], [None, None, 8])

    def test_what_two_share(self):
        text = "make a 2\nframe f\nmake x 1\nput a 0 x\nput a 1 x\nend\nget y a 0\nget z a 1\nsame y z\nsame y x\nsame x a"
        self.alike(run_of(text, "moved").told(), [True, True, False])

    def test_one_turn_to_the_next(self):
        text = "turns f 1 4\nmake x 1\nput x 0 y\ncopy y x\nend\nget a y 0\nget a a 0\nget a a 0\nget b a 0\ntell b"
        run = run_of(text, "moved")
        self.alike(run.told(), [None])
        self.alike(run.greatest(), (4, 13))
        self.alike([stay[2] for stay in run.stays()], [None] * 4)

    def test_no_more_is_used_where_it_is_full(self):
        run = run_of("frame f\nmake x 3\nend\nput x 2 x", "moved", 3)
        self.alike(run.ending(), ("done",))
        self.alike(run.used(), [0, 3, 3, 3])

    def test_what_was_moved_to_the_ground_stays_there(self):
        run = run_of("turns f 1 3\nmake x 2\nend\nput x 0 x", "moved")
        self.alike(seen_framed(run), (
            [], ("done",), 8, [0, 2, 2, 4, 4, 6, 6, 6], (6, 5), [(1, None, None), (3, None, None), (5, 7, None)],
        ))


class Told(Case):
    def test_lists_are_the_askers_own(self):
        for manner in MANNERS:
            run = run_of("frame f\nmake x 1\nput x 0 x\ntell x\nset x 0\nend\ntell x", manner)
            before = copied(seen_framed(run))
            for deed in (run.told, run.used, run.stays):
                self.assertIsNot(deed(), deed())
                deed().append("no")
                deed().clear()
            self.alike(seen_framed(run), before)

    def test_nothing_handed_in_is_changed(self):
        program = read_program("either\nframe f\nmake x 1\nend\nor\nend\ntell x")
        before = seen_program(program)
        for manner in MANNERS:
            choices = [True, False]
            run = run_in(program, choices, 5, manner)
            self.alike(choices, [True, False])
            seen = seen_framed(run)
            choices.clear()
            self.alike(seen_framed(run), seen)
            self.alike(seen_program(program), before)

    def test_a_framed_is_a_framed(self):
        self.assertIs(type(run_of("")), Framed)

    def test_no_run_knows_of_another(self):
        program = read_program("frame f\nmake x 1\nend\ntell x")
        for manner in MANNERS:
            first = seen_framed(run_in(program, (), 1, manner))
            self.alike(seen_framed(run_in(program, (), 1, manner)), first)


class Against(Case):
    """Programs that were thrown, by all their choices, in all manners."""

    def runs(self, many):
        for dice, program in thrown_programs(many):
            for choices in all_choices(program):
                yield dice, program, choices

    def test_another_way_to_run(self):
        for dice, program, choices in self.runs(160):
            for manner in MANNERS:
                for limit in (1000, 1 + dice.below(14)):
                    run = run_in(program, choices, limit, manner)
                    self.alike(seen_framed(run), Model(program.told(), choices, limit, manner).framed())

    def test_houses_just_full_and_one_cell_short(self):
        for dice, program, choices in self.runs(60):
            for manner in MANNERS:
                run = run_in(program, choices, 1000, manner)
                most, step = run.greatest()
                if not most:
                    continue
                self.alike(seen_framed(run_in(program, choices, most, manner)), seen_framed(run))
                if most == 1:
                    continue
                short = run_in(program, choices, most - 1, manner)
                self.alike(short.ending()[0], "full")
                self.alike(short.ending()[1], step)
                self.alike(short.ending()[3], most - 1 - (run.used()[step - 1] if step else 0))
                self.alike(short.used()[:-1], run.used()[:step])

    def test_beside_the_run_without_end(self):
        met = {}
        for dice, program, choices in self.runs(250):
            free = free_run(program, choices)
            for manner in MANNERS:
                for limit in (1000, 6):
                    run = run_in(program, choices, limit, manner)
                    word = run.ending()[0]
                    met[(manner, word)] = True
                    self.alike(run.told(), free.told()[:len(run.told())])
                    self.assertLessEqual(run.long(), free.long())
                    if word in ("done", "stopped"):
                        self.alike((run.told(), run.ending(), run.long()), (free.told(), free.ending(), free.long()))
                    else:
                        self.alike(run.ending()[2], free.deeds()[run.long() - 1])
                    self.alike(len(run.used()), run.long())
                    self.assertLessEqual(run.greatest()[0], limit)
        words = {"plain": ("gone",), "caught": ("kept",), "moved": ()}
        self.assertEqual(sorted(met), sorted(
            (manner, word) for manner in MANNERS for word in ("done", "stopped", "full") + words[manner]
        ))

    def test_gone_at_the_first_touch_behind_an_end(self):
        """What 95 tells of the plain manner, by the runs with room without end and by when frames end."""
        met = 0
        for dice, program, choices in self.runs(200):
            free = free_run(program, choices)
            calm = Program(quiet(program.told()))
            # Where nothing is touched nothing is gone, so all ends of frames are met there.
            gone = [stay[2] for stay in run_in(calm, choices, 1000, "plain").stays()]
            late = [at for at, thing in free.touches() if gone[thing] is not None and gone[thing] < at]
            run = run_in(program, choices, 1000, "plain")
            if late:
                met += 1
                thing = dict(free.touches())[late[0]]
                self.alike(run.ending(), ("gone", late[0], free.deeds()[late[0]], thing))
            else:
                self.alike(run.ending(), free.ending())
                for step, used in enumerate(run.used()):
                    live = [
                        made[1] for made, end in zip(free.things(), gone)
                        if made[2] <= step and (end is None or end > step)
                    ]
                    self.alike(used, sum(live))
        self.assertGreater(met, 20)

    def test_where_nothing_is_caught_nothing_is_gone(self):
        for dice, program, choices in self.runs(200):
            if run_in(program, choices, 1000, "caught").ending()[0] != "kept":
                self.assertNotEqual(run_in(program, choices, 1000, "plain").ending()[0], "gone")


def quiet(body):
    """The same deeds, but a tell in the place of each that may be stopped."""
    return [
        ("tell", "w") if deed[0] in ("put", "get", "more")
        else tuple(quiet(part) if type(part) is tuple else part for part in deed)
        for deed in body
    ]


if __name__ == "__main__":
    unittest.main()
