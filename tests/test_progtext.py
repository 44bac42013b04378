"""Points [76] and [77], and framerooms/progtext.py in the interface."""

import re
import unittest

from framerooms.errors import NoDeed, NoLabel, NoText, RoomError, TooDeep, TooLong, TooMany, TooWide, Twice
from framerooms.programs import Program
from framerooms.progtext import read_program, show_program
from tests.helper import LONG, Case, any_things, refusal, seen_program, thrown_programs

FORTY = "1234567890" * 4

NAME = "[a-z]{1,6}"
LABEL = "(?!ground$|ground )[a-z]{1,6}"
NUMBER = "(?:0|-?[1-9][0-9]{0,39})"

# The forms of 76, each line as a whole.
LINES = [
    f"make {NAME} [1-6](?: in {NAME})?", f"put {NAME} [0-5] {NAME}", f"get {NAME} {NAME} [0-5]",
    f"set {NAME} (?:none|{NUMBER})", f"copy {NAME} {NAME}", f"more {NAME} {NAME} {NUMBER}", f"tell {NAME}",
    f"same {NAME} {NAME}",
]
HEADS = [f"frame {LABEL}", f"turns {LABEL} [1-3] [0-4]", "either"]


def is_one(line, forms):
    return any(re.fullmatch(form, line) for form in forms)


def fault(text):
    """The number of the line that can't stand, by 77; None where all can."""
    lines = text.split("\n") if text else []
    row = []
    for number, line in enumerate(lines):
        if is_one(line, HEADS):
            row.append(line)
        elif line == "or":
            if not row or row[-1] != "either":
                return number
            row[-1] = "either or"
        elif line == "end":
            if not row or row[-1] == "either":
                return number
            row.pop()
        elif not is_one(line, LINES):
            return number
    return len(lines) if row else None


# Each deed with its lines.
PAIRS = [
    (("make", "x", 2, None), "make x 2"), (("make", "x", 1, "ground"), "make x 1 in ground"),
    (("make", "in", 6, "ground"), "make in 6 in ground"), (("put", "x", 0, "y"), "put x 0 y"),
    (("put", "none", 5, "none"), "put none 5 none"), (("get", "x", "y", 0), "get x y 0"),
    (("get", "get", "get", 5), "get get get 5"), (("set", "x", None), "set x none"), (("set", "x", 0), "set x 0"),
    (("set", "none", -10), "set none -10"), (("set", "x", LONG), "set x " + str(LONG)),
    (("copy", "x", "y"), "copy x y"), (("more", "x", "y", -3), "more x y -3"),
    (("more", "x", "x", -LONG), "more x x -" + str(LONG)), (("more", "x", "y", 0), "more x y 0"),
    (("tell", "x"), "tell x"), (("tell", "abcdef"), "tell abcdef"), (("same", "x", "y"), "same x y"),
    (("frame", "f", ()), "frame f\nend"), (("frame", "none", (("tell", "x"),)), "frame none\ntell x\nend"),
    (("frame", "f", (("make", "x", 1, "f"),)), "frame f\nmake x 1 in f\nend"),
    (("frame", "none", (("make", "x", 1, "none"),)), "frame none\nmake x 1 in none\nend"),
    (("frame", "in", (("make", "in", 1, "in"),)), "frame in\nmake in 1 in in\nend"),
    (("turns", "f", 2, 3, (("tell", "x"), ("tell", "y"))), "turns f 2 3\ntell x\ntell y\nend"),
    (("turns", "end", 1, 0, ()), "turns end 1 0\nend"), (("turns", "or", 3, 4, ()), "turns or 3 4\nend"),
    (("either", (), ()), "either\nor\nend"), (("either", (("tell", "x"),), ()), "either\ntell x\nor\nend"),
    (("either", (), (("tell", "x"),)), "either\nor\ntell x\nend"),
    (
        ("either", (("either", (), (("tell", "a"),)),), (("frame", "f", (("either", (), ()),)), ("tell", "b"))),
        "either\neither\nor\ntell a\nend\nor\nframe f\neither\nor\nend\nend\ntell b\nend",
    ),
]

# Lines that can't stand anywhere.
WRONG = [
    "", " ", "tell", "tell ", " tell x", "tell  x", "tell x ", "tell x y", "tell X", "tell x1", "tell abcdefg", "Tell x",
    "tell 0", "TELL x", "tellx", "x", "none", "0",
    "make x", "make x 0", "make x 7", "make x 10", "make x -1", "make x 02", "make x +2", "make x none", "make 2 x",
    "make x 2 in", "make x 2 f", "make x 2 in f g", "make x 2 on f", "make x 2 in F", "make x 2 in ", "make x 2 none",
    "make x in 2 f", "make x 2 in 3", "make x 2 ", "make  2", "make x 2 in 0", "make in f", "make x 2  f",
    "put x y 0", "put x 6 y", "put x -1 y", "put x 00 y", "put x 0", "put x 0 y z", "put x 0 0", "put x none y",
    "get x 0 y", "get x y 6", "get x y", "get x y 0 0", "get x y none", "get x y -0",
    "set x", "set x y", "set x -0", "set x 00", "set x 07", "set x -07", "set x +1", "set x 1:2", "set x None", "set x 1.0",
    "set x none none", "set x true", "set x 1_0", "set x -", "set x --1", "set x 1" + FORTY, "set x -1" + FORTY,
    "set none", "set 0 x", "copy x", "copy x 0", "copy x y z", "copy x none1",
    "more x y", "more x y none", "more x 1 y", "more x y 01", "more x y +1", "more x y 1:1", "more x y 1 1",
    "more x y 1" + FORTY, "same x", "same x y z", "same x 0",
    "frame", "frame F", "frame ground", "frame f g", "frame f 1", "frame 1", "frame ", "frame abcdefg",
    "turns f", "turns f 1", "turns f 0 1", "turns f 4 1", "turns f 1 5", "turns f 1 -1", "turns f 1 1 1", "turns 1 1 f",
    "turns ground 1 1", "turns F 1 1", "turns f 01 1", "turns f 1 01", "turns f none none", "turns f 1 ",
    "either x", "either ", " either", "or x", "or ", " or", "end x", "end ", " end", "END", "turn f", "begin f", "ring f 1 1",
    "/", "tell x / tell y", "-", "make\tx\t2", "tell\tx",
]


class Shown(Case):
    def test_each_form(self):
        for deed, text in PAIRS:
            self.alike(show_program(Program([deed])), text)

    def test_several(self):
        deeds = [deed for deed, text in PAIRS[:18]]
        texts = [text for deed, text in PAIRS[:18]]
        self.alike(show_program(Program(deeds)), "\n".join(texts))
        for before, after in zip(PAIRS, PAIRS[1:]):
            self.alike(show_program(Program([before[0], after[0]])), before[1] + "\n" + after[1])

    def test_nothing(self):
        self.alike(show_program(Program([])), "")


class Read(Case):
    def told(self, text, deeds):
        program = read_program(text)
        self.assertIs(type(program), Program)
        self.alike(program.told(), tuple(deeds))
        self.alike(seen_program(program), seen_program(Program(deeds)))

    def test_each_form(self):
        for deed, text in PAIRS:
            self.told(text, [deed])

    def test_several(self):
        for before, after in zip(PAIRS, PAIRS[1:]):
            self.told(before[1] + "\n" + after[1], [before[0], after[0]])

    def test_nothing(self):
        self.told("", [])

    def test_numbers_of_forty_figures(self):
        for text in (FORTY, "-" + FORTY, "9" * 40, "1" + "0" * 39):
            self.told("set x " + text, [("set", "x", int(text))])
            self.told("more x y " + text, [("more", "x", "y", int(text))])
            self.alike(show_program(read_program("set x " + text)), "set x " + text)


class Refused(Case):
    def no_text(self, text, line):
        self.alike(refusal(self, NoText, read_program, text).line, line)

    def test_what_is_no_text(self):
        for thing in any_things():
            if type(thing) is not str:
                self.no_text(thing, 0)

    def test_any_text(self):
        for thing in any_things():
            if type(thing) is str and thing:
                self.no_text(thing, 0)

    def test_lines_that_cannot_stand(self):
        for line in WRONG:
            if line:
                self.no_text(line, 0)
            self.no_text(line + "\ntell x", 0)
            self.no_text("tell x\n" + line, 1)
            self.no_text("tell x\n" + line + "\ntell", 1)
            self.no_text("frame f\nmake x 1\n" + line + "\nend", 2)
            self.no_text("either\nor\n" + line + "\nend", 2)

    def test_line_feeds_too_many(self):
        self.no_text("\n", 0)
        self.no_text("\ntell x", 0)
        self.no_text("tell x\n", 1)
        self.no_text("tell x\n\ntell x", 1)
        self.no_text("frame f\nend\n", 2)

    def test_or(self):
        for text, line in (
            ("or", 0), ("or\nend", 0), ("tell x\nor", 1), ("frame f\nor\nend", 1), ("turns f 1 1\nor\nend", 1),
            ("either\nor\nor\nend", 2), ("either\nor\nend\nor", 3), ("either\nframe f\nor\nend\nor\nend", 2),
            ("either\nor\nframe f\nor", 3), ("either\neither\nor\nor\nend\nend", 3), ("frame f\nend\nor", 2),
        ):
            self.no_text(text, line)
        Program(read_program("either\neither\nor\nend\nor\nend").told())

    def test_end(self):
        for text, line in (
            ("end", 0), ("tell x\nend", 1), ("frame f\nend\nend", 2), ("either\nend", 1), ("either\nor\nend\nend", 3),
            ("frame f\neither\nend\nend", 2), ("either\nor\neither\nend", 3), ("turns f 1 1\nend\nend\nend", 2),
        ):
            self.no_text(text, line)

    def test_an_end_lacks(self):
        for text in (
            "frame f", "turns f 1 1", "either", "either\nor", "frame f\ntell x", "tell x\nframe f\nframe g\nend",
            "either\nframe f\nend\nor\ntell x", "frame f\nmake x 1 in f",
        ):
            self.no_text(text, len(text.split("\n")))
        self.no_text("\n".join(["frame f"] * 30), 30)

    def test_the_first_of_several(self):
        self.no_text("tell x\nend\ntell", 1)
        self.no_text("tell x\ntell\nend", 1)
        self.no_text("frame f\nor\ntell", 1)
        self.no_text("frame f\nframe g\ntell", 2)
        self.no_text("\n".join(["frame f"] * 20 + ["tell x"] * 60 + ["tell"] + ["end"] * 3), 80)

    def test_then_as_the_body_is(self):
        def refused(kind, field, held, text):
            self.alike(getattr(refusal(self, kind, read_program, text), field), held)
        refused(TooMany, "many", 41, "\n".join(["tell x"] * 41))
        refused(TooMany, "many", 200, "\n".join(["tell x"] * 200))
        refused(TooDeep, "depth", 7, "\n".join([f"frame {label}" for label in "abcdefg"] + ["end"] * 7))
        refused(TooDeep, "depth", 30, "\n".join(["either"] * 30 + ["or\nend"] * 30))
        refused(Twice, "label", "f", "frame f\nturns f 1 1\nend\nend")
        refused(NoLabel, "label", "g", "frame f\nmake x 1 in g\nend")
        refused(NoLabel, "label", "none", "make x 1 in none")
        refused(TooWide, "many", 5, "\n".join(["either\nor\nend"] * 5))
        refused(TooLong, "many", 101, "\n".join(["turns f 1 4"] + ["tell x"] * 24 + ["end"]))

    def test_the_lines_go_ahead_of_the_body(self):
        self.no_text("\n".join(["tell x"] * 41 + ["tell"]), 41)
        self.no_text("make x 1 in f\nend", 1)
        self.no_text("frame f\nframe f\nend", 3)
        self.no_text("\n".join(["either\nor\nend"] * 5 + ["or"]), 15)

    def test_never_no_deed(self):
        for deed, text in PAIRS:
            for place in range(len(text)):
                for sign in "x 0\n-":
                    try:
                        read_program(text[:place] + sign + text[place + 1:])
                    except RoomError as e:
                        self.assertIsNot(type(e), NoDeed)


class RoundAbout(Case):
    def one(self, text):
        """A text is read just where each line can stand and the body is a program; then it is written again."""
        number = fault(text)
        if number is not None:
            self.alike(refusal(self, NoText, read_program, text).line, number, text)
            return
        try:
            program = read_program(text)
        except RoomError as e:
            self.assertIn(type(e), (TooMany, TooDeep, Twice, NoLabel, TooWide, TooLong), text)
        else:
            self.alike(show_program(program), text)

    def test_programs(self):
        for dice, program in thrown_programs(200):
            text = show_program(program)
            self.assertIsNone(fault(text))
            again = read_program(text)
            self.alike(seen_program(again), seen_program(program))
            self.alike(show_program(again), text)

    def test_one_line_otherwise(self):
        for dice, program in thrown_programs(12):
            lines = show_program(program).split("\n")
            for place in range(len(lines) + 1):
                for line in ("end", "or", "either", "frame f", "tell x", dice.pick(lines), dice.pick(WRONG)):
                    self.one("\n".join(lines[:place] + [line] + lines[place:]))
                    self.one("\n".join(lines[:place] + [line] + lines[place + 1:]))
                self.one("\n".join(lines[:place] + lines[place + 1:]))

    def test_one_sign_otherwise(self):
        signs = "\n !-+0123567:/AZ_amxz~'\"."
        for dice, program in thrown_programs(6):
            text = show_program(program)
            for place in range(len(text) + 1):
                for turn in range(3):
                    sign = dice.pick(signs)
                    self.one(text[:place] + sign + text[place:])
                    self.one(text[:place] + sign + text[place + 1:])
                self.one(text[:place] + text[place + 1:])

    def test_the_same_each_time(self):
        for dice, program in thrown_programs(20):
            text = show_program(program)
            self.alike(show_program(program), text)
            self.assertIsNot(read_program(text), read_program(text))


if __name__ == "__main__":
    unittest.main()
