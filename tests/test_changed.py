"""Points [114] to [116] and what [8] says of other programs, and framerooms/changed.py in the interface."""

import itertools
import unittest

from framerooms.changed import idled, relabelled, renamed, shifted
from framerooms.errors import NoName, NoNames, NoNumber, NoValue, TooLong, TooMany
from framerooms.inframes import run_in
from framerooms.programs import Program
from framerooms.progtext import read_program, show_program
from framerooms.running import all_choices, free_run
from tests.helper import (
    LONG, Case, any_things, outcome, refusal, seen_framed, seen_program, seen_run, thrown_programs,
)
from tests.model import flat

MANNERS = ("plain", "caught", "moved")
TEXT = "make x 2\nframe f\nturns g 1 2\nmake y 1 in f\nput x 0 y\nend\nend\neither\nset z 5\nor\nset z none\nmake y 1\nend\nmore z z 1"


def runs_of(program, choices):
    """All that is told of runs of the program, without end and in frames."""
    runs = [seen_run(free_run(program, choices))]
    for manner in MANNERS:
        for limit in (1000, 8):
            runs.append(seen_framed(run_in(program, choices, limit, manner)))
    return runs


class Renamed(Case):
    def test_each_name(self):
        program = read_program(TEXT)
        told = renamed(program, {"x": "a", "y": "bbbbbb", "z": "make"})
        self.assertIs(type(told), Program)
        self.alike(show_program(told), (
            "make a 2\nframe f\nturns g 1 2\nmake bbbbbb 1 in f\nput a 0 bbbbbb\nend\nend\neither\nset make 5\nor\n"
            "set make none\nmake bbbbbb 1\nend\nmore make make 1"
        ))
        self.alike(show_program(program), TEXT)

    def test_names_among_themselves(self):
        program = read_program("make x 1\nput x 0 y\nget z y 0\ncopy x z\nsame y x\ntell z")
        told = renamed(program, {"z": "x", "x": "y", "y": "z"})
        self.alike(show_program(told), "make y 1\nput y 0 z\nget x z 0\ncopy y x\nsame z y\ntell x")

    def test_labels_stay(self):
        program = read_program("frame x\nmake x 1 in x\nend\nmake ground 1 in ground")
        told = renamed(program, {"x": "y", "ground": "x"})
        self.alike(show_program(told), "frame x\nmake y 1 in x\nend\nmake x 1 in ground")

    def test_no_names(self):
        for program in (Program([]), Program([("frame", "f", [])])):
            self.alike(renamed(program, {}).told(), program.told())
            self.assertIs(type(refusal(self, NoNames, renamed, program, {"x": "y"})), NoNames)

    def test_refused(self):
        program = read_program("make x 1\ntell y")
        wrong = any_things() + [
            {"x": "a"}, {"x": "a", "y": "a"}, {"x": "a", "y": "b", "z": "c"}, {"x": "a", "y": "B"}, {"x": "a", "y": 1},
            {"x": "a", "y": ""}, {"x": "a", "y": None}, {"x": "a", "y": ["b"]}, {"x": "a", 1: "b"}, {"x": "a", None: "b"},
            {"x": "a", "z": "b"}, {"x": ["a"], "y": ["b"]}, [("x", "a"), ("y", "b")], {"x": "abcdefg", "y": "b"},
            {("x", "y"): "a"}, {"x": {}, "y": {}}, {"a": "x", "b": "y"}, "xy", ["x", "y"], {"x": "a", "y": "b", True: "c"},
        ]
        for thing in wrong:
            self.assertIs(refusal(self, NoNames, renamed, program, thing).found, thing)

    def test_the_dict_is_not_changed_nor_kept(self):
        names = {"y": "b", "x": "a"}
        told = renamed(read_program("make x 1\ntell y"), names)
        self.alike(names, {"y": "b", "x": "a"})
        names.clear()
        self.alike(show_program(told), "make a 1\ntell b")

    def test_runs_side_by_side(self):
        for dice, program in thrown_programs(100):
            others = ["w", "q", "abcdef", "x", "ground", "y"][dice.below(2):]
            names = dict(zip(program.names(), others))
            told = renamed(program, names)
            self.alike(renamed(told, {new: old for old, new in names.items()}).told(), program.told())
            for choices in all_choices(program):
                for elder, newer in zip(runs_of(program, choices), runs_of(told, choices)):
                    self.alike(newer, (elder[0], named(elder[1], names)) + elder[2:])


def named(ending, names):
    """The ending with other names in it."""
    if ending[0] == "stopped" and ending[3] in ("thing", "number"):
        return ending[:4] + (names[ending[4]],)
    return ending


class Relabelled(Case):
    def test_each_label(self):
        program = read_program(TEXT)
        told = relabelled(program, {"f": "h", "g": "f"})
        self.assertIs(type(told), Program)
        self.alike(show_program(told), TEXT.replace("frame f", "frame h").replace("turns g", "turns f").replace("in f", "in h"))
        self.alike(show_program(program), TEXT)

    def test_none_and_the_ground_are_left(self):
        program = read_program("frame f\nmake x 1\nmake x 1 in f\nmake x 1 in ground\nend\nturns f 1 1\nmake x 1 in f\nend")
        told = relabelled(program, {"f": "g"})
        self.alike(show_program(told), (
            "frame g\nmake x 1\nmake x 1 in g\nmake x 1 in ground\nend\nturns g 1 1\nmake x 1 in g\nend"
        ))

    def test_names_stay(self):
        program = read_program("frame x\nmake x 1 in x\nput x 0 x\nend")
        self.alike(show_program(relabelled(program, {"x": "y"})), "frame y\nmake x 1 in y\nput x 0 x\nend")

    def test_no_labels(self):
        program = read_program("make x 1 in ground\neither\nor\nend")
        self.alike(relabelled(program, {}).told(), program.told())
        for thing in ({"ground": "f"}, {"x": "f"}, {"ground": "ground"}):
            self.assertIs(refusal(self, NoNames, relabelled, program, thing).found, thing)

    def test_refused(self):
        program = read_program("frame f\nturns g 1 0\nmake x 1\nend\nend")
        wrong = any_things() + [
            {"f": "a"}, {"g": "a"}, {"f": "a", "g": "a"}, {"f": "a", "g": "b", "h": "c"}, {"f": "a", "g": "ground"},
            {"f": "ground", "g": "a"}, {"f": "a", "g": "b", "ground": "c"}, {"f": "a", "g": "b", None: "c"},
            {"f": "a", "g": "b", "x": "y"}, {"f": "a", "g": "B"}, {"f": "a", "g": None}, {"f": "a", "g": 0},
            {"f": "a", 0: "b"}, {"f": ["a"], "g": ["b"]}, [("f", "a"), ("g", "b")], {"f": "a", "g": "b", True: "c"},
        ]
        for thing in wrong:
            self.assertIs(refusal(self, NoNames, relabelled, program, thing).found, thing)

    def test_the_dict_is_not_changed_nor_kept(self):
        labels = {"f": "a"}
        told = relabelled(read_program("frame f\nmake x 1 in f\nend"), labels)
        self.alike(labels, {"f": "a"})
        labels.clear()
        self.alike(show_program(told), "frame a\nmake x 1 in a\nend")

    def test_runs_side_by_side(self):
        for dice, program in thrown_programs(100):
            labels = list(dict.fromkeys(deed[1] for deed in flat(program.told()) if deed[0] in ("frame", "turns")))
            labels = dict(zip(labels, ["g", "h", "f", "zz", "x", "y"]))
            told = relabelled(program, labels)
            self.alike(relabelled(told, {new: old for old, new in labels.items()}).told(), program.told())
            for choices in all_choices(program):
                self.alike(runs_of(told, choices), runs_of(program, choices))


class Shifted(Case):
    def test_each_number_that_is_set(self):
        program = read_program(TEXT + "\nset x -3\nset x 0")
        told = shifted(program, 4)
        self.assertIs(type(told), Program)
        self.alike(show_program(told), TEXT.replace("set z 5", "set z 9") + "\nset x 1\nset x 4")
        self.alike(show_program(shifted(program, -5)), TEXT.replace("set z 5", "set z 0") + "\nset x -8\nset x -5")
        self.alike(shifted(program, 0).told(), program.told())
        self.alike(show_program(program), TEXT + "\nset x -3\nset x 0")

    def test_long_numbers(self):
        program = Program([("set", "x", LONG), ("set", "y", -LONG)])
        self.alike(shifted(program, LONG).told(), (("set", "x", 2 * LONG), ("set", "y", 0)))
        self.alike(shifted(shifted(program, LONG), LONG).told(), (("set", "x", 3 * LONG), ("set", "y", LONG)))

    def test_no_other_number(self):
        text = "make x 2 in ground\nput x 1 y\nget y x 0\nmore z z 3\nturns f 1 2\nend\nset z none"
        self.alike(show_program(shifted(read_program(text), 1)), text)

    def test_refused(self):
        for program in (Program([]), read_program(TEXT)):
            for thing in any_things():
                if type(thing) is int:
                    shifted(program, thing)
                else:
                    self.assertIs(refusal(self, NoNumber, shifted, program, thing).found, thing)

    def test_runs_side_by_side(self):
        for dice, program in thrown_programs(100):
            n = dice.pick([1, -1, 30, LONG])
            told = shifted(program, n)
            for choices in all_choices(program):
                for elder, newer in zip(runs_of(program, choices), runs_of(told, choices)):
                    more = [telling + n if type(telling) is int else telling for telling in elder[0]]
                    self.alike(newer, (more,) + elder[1:])


class Idled(Case):
    def test_right_ahead_of_the_deed(self):
        program = read_program("tell x\nframe f\ntell x\neither\ntell x\nor\ntell y\nend\nend\ntell x")
        lines = {0: 0, 1: 1, 2: 2, 3: 3, 4: 4, 5: 6, 6: 9}
        for number, line in lines.items():
            for value in (None, 0, -7, LONG):
                told = idled(program, number, "a", value)
                self.assertIs(type(told), Program)
                rows = show_program(program).split("\n")
                rows.insert(line, "set a " + ("none" if value is None else str(value)))
                self.alike(show_program(told), "\n".join(rows))
                self.alike(told.deeds(), 8)

    def test_the_number(self):
        program = read_program("tell x\nframe f\ntell x\nend")
        for thing in any_things() + [3, -1]:
            if type(thing) is int and thing in (0, 1, 2):
                continue
            self.assertIs(refusal(self, NoNumber, idled, program, thing, "a", 1).found, thing)
        for thing in (0, 1, -1, None):
            self.assertIs(refusal(self, NoNumber, idled, Program([]), thing, "a", 1).found, thing)

    def test_the_name(self):
        program = read_program("tell x")
        for thing in any_things() + ["A", "abcdefg", "a b", ""]:
            if thing in ("a", "abc", "none") and type(thing) is str:
                continue
            self.assertIs(refusal(self, NoName, idled, program, 0, thing, 1).found, thing)
        for name in ("a", "none", "ground", "set", "xx"):
            self.alike(idled(program, 0, name, 1).names(), [name, "x"])

    def test_the_value(self):
        program = read_program("tell x")
        for thing in any_things():
            if thing is None or type(thing) is int:
                self.alike(idled(program, 0, "a", thing).told(), (("set", "a", thing), ("tell", "x")))
            else:
                self.assertIs(refusal(self, NoValue, idled, program, 0, "a", thing).found, thing)

    def test_one_of_the_names(self):
        program = read_program("make a 1\nput b 0 c\neither\nget d e 0\nor\nend\nframe f\nend")
        for name in "abcde":
            self.alike(refusal(self, NoNames, idled, program, 0, name, 1).found, name)
        self.alike(idled(program, 0, "f", 1).names(), ["f", "a", "b", "c", "d", "e"])

    def test_too_many(self):
        program = Program([("tell", "x")] * 40)
        for number in (0, 39):
            self.alike(refusal(self, TooMany, idled, program, number, "a", 1).many, 41)
        self.alike(idled(Program([("tell", "x")] * 39), 38, "a", 1).deeds(), 40)

    def test_too_long(self):
        program = read_program("\n".join(["turns f 3 4"] + ["tell x"] * 23 + ["end"] + ["tell x"] * 3))
        self.alike(program.longest(), 100)
        self.alike(refusal(self, TooLong, idled, program, 0, "a", 1).many, 101)
        self.alike(refusal(self, TooLong, idled, program, 1, "a", 1).many, 104)
        program = read_program("\n".join(["turns f 3 4"] + ["tell x"] * 23 + ["end"] + ["tell x"] * 2))
        self.alike(idled(program, 0, "a", 1).longest(), 100)
        self.alike(refusal(self, TooLong, idled, program, 23, "a", 1).many, 103)

    def test_in_their_order(self):
        program = Program([("tell", "x")] * 40)
        rows = [(NoNumber, 40, 0), (NoName, "X", "x"), (NoValue, True, None)]
        for wrong in itertools.product((True, False), repeat=3):
            things = [row[1] if flag else row[2] for row, flag in zip(rows, wrong)]
            kinds = [(row[0], row[1]) for row, flag in zip(rows, wrong) if flag] + [(NoNames, "x")]
            self.alike(refusal(self, kinds[0][0], idled, program, *things).found, kinds[0][1])
        self.alike(refusal(self, TooMany, idled, program, 0, "a", None).many, 41)

    def test_too_many_ahead_of_too_long(self):
        lines = ["turns f 3 4"] + ["tell x"] * 18 + ["end"] + ["tell x"] * 21
        program = read_program("\n".join(lines))
        self.alike((program.deeds(), program.longest()), (40, 98))
        self.alike(refusal(self, TooMany, idled, program, 1, "a", 1).many, 41)
        program = read_program("\n".join(lines[:-1]))
        self.alike((program.deeds(), program.longest()), (39, 97))
        self.alike(refusal(self, TooLong, idled, program, 1, "a", 1).many, 101)

    def test_the_program_stays(self):
        program = read_program(TEXT)
        before = seen_program(program)
        idled(program, 3, "a", 1)
        outcome(idled, program, 3, "x", 1)
        self.alike(seen_program(program), before)

    def test_runs_side_by_side(self):
        for dice, program in thrown_programs(120):
            number = dice.below(program.deeds())
            try:
                told = idled(program, number, "idle", dice.pick([None, 4]))
            except (TooMany, TooLong):
                continue
            for choices in all_choices(program):
                one = free_run(program, choices)
                two = free_run(told, choices)
                self.side_by_side(one, two, number)
                for manner in MANNERS:
                    for limit in (1000, 8):
                        self.beside_in_frames(program, told, choices, limit, manner, number, two.deeds())

    def side_by_side(self, one, two, number):
        def later(deed):
            return deed + (deed >= number)
        steps = [at for at, deed in enumerate(two.deeds()) if deed != number]
        self.alike([two.deeds()[at] for at in steps], [later(deed) for deed in one.deeds()])
        self.alike(two.told(), one.told())
        self.alike(two.taken(), one.taken())
        self.alike(two.things(), [(later(deed), size, steps[at]) for deed, size, at in one.things()])
        self.alike(two.touches(), [(steps[at], thing) for at, thing in one.touches()])
        self.alike(two.ending(), self.behind(one.ending(), steps, later))
        self.alike(two.long(), one.long() + two.deeds().count(number))

    def behind(self, ending, steps, later):
        return ending if ending == ("done",) else (ending[0], steps[ending[1]], later(ending[2])) + ending[3:]

    def beside_in_frames(self, program, told, choices, limit, manner, number, deeds):
        def later(deed):
            return deed + (deed >= number)
        one, two = run_in(program, choices, limit, manner), run_in(told, choices, limit, manner)
        deeds = deeds[:two.long()]
        steps = [at for at, deed in enumerate(deeds) if deed != number]
        self.alike(two.told(), one.told())
        self.alike(two.ending(), self.behind(one.ending(), steps, later))
        self.alike(two.long(), one.long() + deeds.count(number))
        self.alike([two.used()[at] for at in steps], one.used())
        for at, used in enumerate(two.used()):
            if deeds[at] == number:
                self.alike(used, two.used()[at - 1] if at else 0)
        self.alike(two.greatest()[0], one.greatest()[0])
        self.alike(two.stays(), [
            tuple(None if at is None else steps[at] for at in stay) for stay in one.stays()
        ])


if __name__ == "__main__":
    unittest.main()
