"""Points [121] to [126], and framerooms/desk.py in the interface; of [6] and [7] what is told through lines."""

import itertools
import unittest

from framerooms.desk import Desk
from framerooms.errors import (
    Full, Gone, Ground, Kept, NoCell, NoFrame, NoHouse, NoLabel, NoLine, NoManner, NoNames, NoNumber, NoProgram, NoText,
    NotStraight, NoValue, NoWay, RoomError, TooDeep, TooLong, TooMany, TooWide, Twice,
)
from framerooms.framing import framed
from framerooms.house import House
from framerooms.inframes import run_in
from framerooms.looking import look, most, placed, unsafe
from framerooms.moving import finish_moved
from framerooms.progtext import read_program, show_program
from framerooms.rings import Ring
from framerooms.running import all_choices, free_run
from framerooms.ways import finish_caught, kept
from tests.helper import Case, Dice, any_things, refusal, thrown_programs

FORTY = "1234567890" * 4

# For each form of line one example; those of the house, and those of the program.
HOUSE = [
    "begin 0", "finish 1", "caught 1", "moved 1", "make 0 1", "put 0:0 0 none", "hold x 1", "drop x", "ring r 0 1",
    "turn r", "used", "left", "greatest", "standing", "row 0", "rooms 0", "cells 0:0", "get 0:0 0", "hands", "kept 1",
]
PROGRAM = ["show", "free -", "run plain 5 -", "look", "most", "unsafe", "placed", "framed"]
ALONE = ["house 5", "program", "program tell x"]

# Lines that have none of the forms.
WRONG = [
    "", " ", "  ", "\n", "used\n", "\nused", "us ed", " used", "used ", "used used", "Used", "USED", "use", "u",
    "house", "house x", "house 5 5", "house 05", "house +5", "house -0", "house 5.0", "house none", "house 1:2", "house  5",
    "house 5 ", " house 5", "house\n5", "house -", "house " + FORTY + "1", "house -" + FORTY + "1",
    "program ", "program  tell x", " program", "program tell x ", "program tell x\ntell y", "program\n", "Program", "programs",
    "program\ntell x", "program tell  x",
    "begin", "begin x", "begin 0 0", "begin 00", "begin 0:0", "begin none", "begin -0", "begin 1" + FORTY,
    "finish", "finish x", "finish 1 1", "finish 1:0", "caught", "caught x", "caught 1 1", "moved", "moved x", "moved 1 1",
    "make", "make 0", "make 0 x", "make x 1", "make 0 1 1", "make 0:0 1", "make 0 none", "make x 2", "make 0 01",
    "put", "put 0:0", "put 0:0 0", "put 0:0 0 x", "put 0 0 0", "put none 0 0", "put 0:0 none 0", "put 0:0 x 0", "put 0:0 0 0 0",
    "put 0:0 0 00", "put 0:0 0 0:00", "put 00:0 0 0", "put 0:-1 0 0", "put x 0 y", "put -1:0 0 0", "put 0:0 0 None",
    "put 0:0 0 1:", "put 0:0 0 :1", "put 0:0 0 1:2:3", "put 0:0 0 1" + FORTY, "put 1" + FORTY + ":0 0 0",
    "put 0:1" + FORTY + " 0 0", "put 0:0 0 0:1" + FORTY,
    "hold", "hold x", "hold x y", "hold X 0", "hold 0 x", "hold x 0 0", "hold abcdefg 0", "hold x 0:", "hold  0", "hold x1 0",
    "drop", "drop X", "drop 0", "drop x y", "drop abcdefg", "ring", "ring r", "ring r 0", "ring 0 0 1", "ring R 0 1",
    "ring r 0 1 1", "ring r x 1", "ring r 0 x", "ring r 0:0 1", "ring r none 1", "turn", "turn R", "turn 0", "turn r s",
    "left 0", "left ", "greatest 1", "standing 0", "row", "row x", "row 0 0", "row 0:0", "rooms", "rooms x", "rooms 0 0",
    "cells", "cells 0", "cells none", "cells x", "cells 0:0 0", "cells 0:00", "get", "get 0:0", "get 0 0", "get 0:0 x",
    "get 0:0 0 0", "get none 0", "get 0:0 none", "get x y 0", "hands x", "hands 0", "kept", "kept x", "kept 1 1",
    "show x", "show -", "free", "free x", "free yx", "free --", "free y n", "free Y", "free -y", "free y-", "free none",
    "free 1", "free q", "free ynq", "run", "run plain", "run plain 5", "run plain 5 x", "run plain x -", "run 5 plain -", "run Plain 5 -",
    "run plain 5 - -", "run plain 5 y n", "run abcdefg 5 -", "run plain 05 -", "run plain 5:0 -", "run plain none -",
    "look x", "look 0", "most x", "unsafe x", "placed x", "framed x", "framed 1", "tell x", "frame f", "end", "or", "either",
    "twin", "picture", "size 0:0", "inside 0", "within 0", "limit", "ended 1", "none", "ok", "/", "-", "0", "0:0",
]


def desk_with(*lines):
    desk = Desk()
    for line in lines:
        desk.say(line)
    return desk


class Says(Case):
    """Each of the classes below tells a desk lines, and what is to come of them."""

    def talk(self, desk, *rows):
        for line, answer in rows:
            self.alike(desk.say(line), answer, line)

    def no(self, desk, line, kind, /, **fields):
        """It is refused by just this class, with these fields."""
        answer = refusal(self, kind, desk.say, line)
        self.alike(sorted(vars(answer).items()), sorted(fields.items()), line)


class Lines(Says):
    def desks(self):
        return [Desk(), desk_with("house 9"), desk_with("program"), desk_with("house 9", "program make x 1", "ring r 0 1")]

    def test_what_is_no_line(self):
        for desk in self.desks():
            for thing in any_things() + WRONG:
                self.assertIs(refusal(self, NoLine, desk.say, thing).found, thing)

    def test_lists_of_lines_are_none(self):
        for desk in self.desks():
            for thing in (["used"], ("used",), {"used": 1}, [["used"]], None, 5, True):
                self.assertIs(refusal(self, NoLine, desk.say, thing).found, thing)

    def test_no_house(self):
        for desk in (Desk(), desk_with("program tell x")):
            for line in HOUSE + ["turn q", "drop q", "make 7 7", "begin -1", "put 9:9 9 9:9", "hold x 7:7", "kept 0"]:
                self.no(desk, line, NoHouse)

    def test_no_program(self):
        for desk in (Desk(), desk_with("house 5")):
            for line in PROGRAM + ["run no 0 -", "run no -5 yyyyyyy"]:
                self.no(desk, line, NoProgram)

    def test_each_by_what_is_there(self):
        for line in HOUSE:
            try:
                desk_with("house 9").say(line)
            except RoomError as e:
                self.assertNotIn(type(e), (NoLine, NoHouse, NoProgram))
        for line in PROGRAM:
            self.assertIs(type(desk_with("program").say(line)), str)

    def test_a_program_that_is_refused_is_none(self):
        desk = Desk()
        self.no(desk, "program tell", NoText, line=0)
        self.no(desk, "show", NoProgram)
        self.no(desk, "house 0", NoNumber, found=0)
        self.no(desk, "used", NoHouse)

    def test_numbers_may_be_below_nought_and_long(self):
        desk = desk_with("house 9", "program")
        self.no(desk, "begin -1", NoFrame, found=-1)
        self.no(desk, "begin " + FORTY, NoFrame, found=int(FORTY))
        self.no(desk, "make 0 -" + FORTY, NoNumber, found=-int(FORTY))
        self.no(desk, "house -7", NoNumber, found=-7)
        self.no(desk, "house " + FORTY, NoNumber, found=int(FORTY))
        self.no(desk, f"cells {FORTY}:{FORTY}", NoWay, found=(int(FORTY), int(FORTY)))
        self.no(desk, f"hold x {FORTY}:0", NoValue, found=(int(FORTY), 0))
        self.no(desk, f"run plain -{FORTY} -", NoNumber, found=-int(FORTY))
        self.talk(desk, ("make 0 1", "0:0"), (f"put 0:0 0 -{FORTY}", "ok"), ("get 0:0 0", "-" + FORTY))


class Houses(Says):
    def test_a_house(self):
        desk = Desk()
        self.talk(desk, ("house 1", "ok"), ("left", "1"), ("house 1000", "ok"), ("left", "1000"), ("used", "0"))
        for line, found in (("house 0", 0), ("house 1001", 1001), ("house -1", -1)):
            self.no(desk, line, NoNumber, found=found)
        self.talk(desk, ("left", "1000"))

    def test_a_new_house_has_nothing(self):
        desk = desk_with("program tell x", "house 9", "begin 0", "make 1 2", "hold x 1:0", "ring r 0 1", "turn r")
        self.talk(
            desk, ("house 8", "ok"), ("standing", "0"), ("used", "0"), ("greatest", "0"), ("hands", "none"), ("rooms 0", "none"),
            ("show", "tell x"),
        )
        self.no(desk, "turn r", NoNames, found="r")
        self.no(desk, "drop x", NoNames, found="x")
        self.no(desk, "cells 1:0", NoWay, found=(1, 0))

    def test_frames(self):
        desk = desk_with("house 9")
        self.talk(
            desk, ("begin 0", "1"), ("begin 1", "2"), ("begin 2", "3"), ("begin 1", "4"), ("begin 0", "5"),
            ("standing", "0 1 2 3 4 5"), ("row 3", "0 1 2 3"), ("row 0", "0"), ("finish 2", "3 2"), ("row 3", "0 1 2 3"),
            ("standing", "0 1 4 5"), ("finish 1", "4 1"), ("finish 5", "5"), ("standing", "0"),
        )
        self.no(desk, "begin 6", NoFrame, found=6)
        self.no(desk, "begin 3", Gone, found=3, by=2)
        self.no(desk, "finish 6", NoFrame, found=6)
        self.no(desk, "finish 4", Gone, found=4, by=1)
        self.no(desk, "finish 0", Ground)
        self.no(desk, "row 6", NoFrame, found=6)
        self.no(desk, "rooms 6", NoFrame, found=6)
        self.no(desk, "rooms 3", Gone, found=3, by=2)

    def test_too_many_frames(self):
        desk = desk_with("house 9", *["begin 0"] * 99)
        self.talk(desk, ("begin 0", "100"), ("finish 7", "7"))
        self.no(desk, "begin 0", TooMany, many=101)

    def test_rooms(self):
        desk = desk_with("house 9", "begin 0")
        self.talk(
            desk, ("make 0 2", "0:0"), ("make 1 3", "1:0"), ("make 0 1", "0:2"), ("make 1 1", "1:3"), ("rooms 0", "0:0 0:2"),
            ("rooms 1", "1:0 1:3"), ("used", "7"), ("left", "2"), ("greatest", "7"), ("cells 1:0", "none none none"),
            ("put 1:0 1 0:2", "ok"), ("put 1:0 2 -5", "ok"), ("cells 1:0", "none 0:2 -5"), ("get 1:0 1", "0:2"),
            ("get 1:0 0", "none"), ("put 1:0 1 none", "ok"), ("get 1:0 1", "none"), ("put 0:2 0 1:3", "ok"), ("finish 1", "1"),
            ("used", "3"), ("left", "6"), ("greatest", "7"), ("get 0:2 0", "1:3"), ("put 0:0 0 1:0", "ok"),
            ("cells 0:0", "1:0 none"),
        )
        self.no(desk, "make 2 1", NoFrame, found=2)
        self.no(desk, "make 1 1", Gone, found=1, by=1)
        self.no(desk, "make 0 0", NoNumber, found=0)
        self.no(desk, "make 0 7", NoNumber, found=7)
        self.talk(desk, ("make 0 5", "0:3"))
        self.no(desk, "make 0 2", Full, need=2, spare=1)
        for line in ("cells 0:1", "get 0:1 0", "put 0:1 0 0"):
            self.no(desk, line, NoWay, found=(0, 1))
        for line in ("cells 1:3", "get 1:3 9", "put 1:3 0 0"):
            self.no(desk, line, Gone, found=(1, 3), by=1)
        for line in ("get 0:0 2", "put 0:0 2 9:9"):
            self.no(desk, line, NoCell, found=2)
        self.no(desk, "get 0:0 -1", NoCell, found=-1)
        self.no(desk, "put 0:0 0 0:1", NoValue, found=(0, 1))

    def test_hands(self):
        desk = desk_with("house 9", "make 0 1", "begin 0", "make 1 1")
        self.talk(
            desk, ("hands", "none"), ("hold x 0:0", "ok"), ("hold none none", "ok"), ("hold a -3", "ok"), ("hold b 1:0", "ok"),
            ("hands", "x 0:0 / none none / a -3 / b 1:0"), ("hold x 7", "ok"), ("hands", "x 7 / none none / a -3 / b 1:0"),
            ("drop none", "ok"), ("hands", "x 7 / a -3 / b 1:0"), ("hold none 0", "ok"), ("drop x", "ok"), ("finish 1", "1"),
            ("hands", "a -3 / b 1:0 / none 0"), ("hold c 1:0", "ok"), ("hands", "a -3 / b 1:0 / none 0 / c 1:0"),
        )
        self.no(desk, "hold z 0:1", NoValue, found=(0, 1))
        self.no(desk, "hold a 5:5", NoValue, found=(5, 5))
        self.no(desk, "drop x", NoNames, found="x")
        self.no(desk, "drop q", NoNames, found="q")
        self.talk(
            desk, ("hands", "a -3 / b 1:0 / none 0 / c 1:0"), ("drop a", "ok"), ("drop b", "ok"), ("drop c", "ok"),
            ("drop none", "ok"), ("hands", "none"),
        )

    def test_kept(self):
        desk = desk_with("house 20", "make 0 2", "begin 0", "make 1 2", "make 1 1", "begin 1", "make 2 1", "make 2 1")
        self.talk(
            desk, ("kept 1", "none"), ("hold x 2:0", "ok"), ("put 0:0 1 1:0", "ok"), ("put 1:0 0 1:2", "ok"),
            ("put 1:2 0 2:1", "ok"), ("kept 1", "2:0 1 / 1:0 1 / 1:2 2 / 2:1 3"), ("kept 2", "2:0 1 / 2:1 1"),
        )
        self.no(desk, "kept 3", NoFrame, found=3)
        self.no(desk, "kept 0", Ground)
        self.no(desk, "caught 1", Kept, ways=[(2, 0), (1, 0), (1, 2), (2, 1)])
        self.no(desk, "caught 0", Ground)
        self.talk(desk, ("drop x", "ok"), ("put 0:0 1 none", "ok"), ("kept 1", "none"), ("caught 1", "2 1"), ("used", "2"))
        self.no(desk, "caught 2", Gone, found=2, by=1)
        self.no(desk, "kept 1", Gone, found=1, by=1)
        self.no(desk, "moved 1", Gone, found=1, by=1)

    def test_moved(self):
        desk = desk_with("house 20", "make 0 2", "begin 0", "begin 1", "make 2 2", "make 2 1", "make 1 1", "make 2 1")
        self.talk(
            desk, ("hold a 5", "ok"), ("hold x 2:2", "ok"), ("put 2:2 0 2:0", "ok"), ("put 0:0 0 2:2", "ok"), ("hold y 2:0", "ok"),
            ("moved 2", "2 / 2:2 1:1 / 2:0 1:2"), ("hands", "a 5 / x 1:1 / y 1:2"), ("cells 0:0", "1:1 none"),
            ("cells 1:1", "1:2"), ("used", "6"), ("greatest", "7"), ("drop x", "ok"), ("drop y", "ok"), ("put 0:0 0 none", "ok"),
            ("moved 1", "1"), ("used", "2"), ("begin 0", "3"), ("begin 3", "4"), ("moved 3", "4 3"),
        )
        self.no(desk, "moved 0", Ground)
        self.no(desk, "moved 9", NoFrame, found=9)

    def test_rings(self):
        desk = desk_with("house 20", "begin 0")
        self.talk(
            desk, ("ring r 1 2", "ok"), ("turn r", "2"), ("turn r", "3"), ("begin 2", "4"), ("turn r", "5 4 2"), ("turn r", "6 3"),
            ("standing", "0 1 5 6"), ("ring s 0 1", "ok"), ("turn s", "7"), ("turn s", "8 7"), ("ring r 8 1", "ok"),
            ("turn r", "9"), ("standing", "0 1 5 6 8 9"), ("row 9", "0 8 9"), ("turn s", "10 9 8"),
        )
        self.no(desk, "turn r", Gone, found=8, by=8)
        self.no(desk, "turn q", NoNames, found="q")
        self.no(desk, "ring q 99 1", NoFrame, found=99)
        self.no(desk, "ring q 8 0", Gone, found=8, by=8)
        self.no(desk, "ring q 0 0", NoNumber, found=0)
        self.no(desk, "ring q 0 5", NoNumber, found=5)
        self.no(desk, "turn q", NoNames, found="q")
        # What is refused is not in the place of the elder one.
        self.no(desk, "ring s 0 5", NoNumber, found=5)
        self.talk(desk, ("turn s", "11 10"))

    def test_rings_and_hands_are_named_apart(self):
        desk = desk_with("house 9", "ring a 0 1", "hold b 1")
        self.no(desk, "drop a", NoNames, found="a")
        self.no(desk, "turn b", NoNames, found="b")

    def test_too_many_turns(self):
        desk = desk_with("house 9", "ring r 0 1", *["turn r"] * 100)
        self.no(desk, "turn r", TooMany, many=101)
        self.talk(desk, ("standing", "0 100"))


class Programs(Says):
    def test_a_program(self):
        desk = Desk()
        for line, text in (
            ("program", "none"), ("program tell x", "tell x"), ("program frame f / make x 1 in f / end", "frame f / make x 1 in f / end"),
            ("program either / or / set x -3 / end / tell x", "either / or / set x -3 / end / tell x"),
        ):
            self.talk(desk, (line, "ok"), ("show", text))

    def test_what_is_refused_in_it(self):
        desk = desk_with("program tell x")
        for line, number in (
            ("program /", 0), ("program / tell x", 0), ("program tell x /", 0), ("program tell x / / tell y", 1),
            ("program tell x / tell", 1), ("program frame f", 1), ("program tell x / end", 1), ("program program", 0),
            ("program tell x/tell y", 0), ("program tell x / or / tell", 1), ("program / /", 0), ("program tell x / / / tell x", 1),
            ("program tell x / tell x /", 1), ("program none", 0),
        ):
            self.no(desk, line, NoText, line=number)
        self.no(desk, "program make x 1 in f", NoLabel, label="f")
        self.no(desk, "program frame f / frame f / end / end", Twice, label="f")
        self.no(desk, "program " + " / ".join(["tell x"] * 41), TooMany, many=41)
        self.no(desk, "program " + " / ".join([f"frame {name}" for name in "abcdefg"] + ["end"] * 7), TooDeep, depth=7)
        self.no(desk, "program " + " / ".join(["either / or / end"] * 5), TooWide, many=5)
        self.no(desk, "program turns f 1 4 / " + " / ".join(["tell x"] * 24) + " / end", TooLong, many=101)
        self.talk(desk, ("show", "tell x"))

    def test_strokes_share_no_blank(self):
        # From the left on: "a / / b" has one line feed, and its second line is "/ b".
        desk = Desk()
        self.no(desk, "program tell x / / / tell x", NoText, line=1)
        self.no(desk, "program tell x / tell x / / tell x", NoText, line=2)

    def test_the_house_stays(self):
        desk = desk_with("house 7", "make 0 2", "hold x 0:0")
        self.talk(desk, ("program tell x", "ok"), ("used", "2"), ("hands", "x 0:0"), ("left", "5"))

    def test_free(self):
        desk = desk_with("program tell x / set x 7 / tell x / make x 1 / tell x / same x x / same x y / set x -2 / tell x")
        self.talk(desk, ("free -", "none 7 thing yes no -2 / done"), ("free y", "none 7 thing yes no -2 / done"))
        desk.say("program set x 1")
        self.talk(desk, ("free -", "none / done"))
        desk.say("program")
        self.talk(desk, ("free -", "none / done"), ("free ynynynyn", "none / done"))
        desk.say("program tell x / put y 0 x")
        self.talk(desk, ("free -", "none / stopped 1 1 thing y"))
        desk.say("program make x 2 / put x 4 x")
        self.talk(desk, ("free -", "none / stopped 1 1 cell 4"))
        desk.say("program tell z / more y x 4")
        self.talk(desk, ("free -", "none / stopped 1 1 number x"))

    def test_choices(self):
        desk = desk_with("program either / set x 1 / or / set x 2 / end / tell x / either / tell x / or / end")
        for word, answer in (
            ("-", "2"), ("y", "1"), ("n", "2"), ("yy", "1 1"), ("yn", "1"), ("ny", "2 2"), ("nn", "2"), ("yyn", "1 1"), ("nyyyyyy", "2 2"),
        ):
            self.talk(
                desk, ("free " + word, answer + " / done"), ("run plain 1 " + word, answer + " / done / 0"),
                ("run caught 1000 " + word, answer + " / done / 0"), ("run moved 7 " + word, answer + " / done / 0"),
            )

    def test_run(self):
        desk = desk_with("program frame f / make x 2 / make y 3 / end / tell x / put x 0 y / tell y")
        self.talk(
            desk, ("free -", "thing thing / done"), ("run plain 10 -", "thing / gone 5 4 0 / 5"),
            ("run caught 10 -", "none / kept 3 0 0 1 / 5"), ("run moved 10 -", "thing thing / done / 5"),
            ("run moved 5 -", "thing thing / done / 5"), ("run moved 4 -", "none / full 2 2 2 / 2"),
            ("run plain 1 -", "none / full 1 1 1 / 0"),
        )
        self.no(desk, "run plainn 10 -", NoManner, found="plainn")
        self.no(desk, "run none 10 -", NoManner, found="none")
        self.no(desk, "run plain 0 -", NoNumber, found=0)
        self.no(desk, "run no 1001 -", NoNumber, found=1001)
        desk.say("program")
        self.talk(desk, ("run plain 10 -", "none / done / 0"))
        desk.say("program make x 1 / make x 2 / put y 5 x")
        self.talk(desk, ("run plain 10 -", "none / stopped 2 2 thing y / 3"))

    def test_the_run_has_its_own_house(self):
        desk = desk_with("house 1", "make 0 1", "program make x 2")
        self.talk(desk, ("run plain 10 -", "none / done / 2"), ("used", "1"), ("left", "0"), ("greatest", "1"))

    def test_look_placed_most_unsafe(self):
        desk = desk_with("program frame f / make x 2 / frame g / make y 1 / end / put y 0 x / end / either / get z x 0 / or / end")
        self.talk(
            desk, ("look", "1 ground / 3 f"), ("most", "3"), ("unsafe", "yes"), ("placed", "ok"),
            ("show", "frame f / make x 2 in ground / frame g / make y 1 in f / end / put y 0 x / end / either / get z x 0 / or / end"),
            ("unsafe", "no"), ("most", "3"), ("look", "1 ground / 3 f"),
        )
        desk.say("program tell x")
        self.talk(desk, ("look", "none"), ("most", "0"), ("unsafe", "no"), ("placed", "ok"), ("show", "tell x"))
        desk.say("program")
        self.talk(desk, ("look", "none"), ("most", "0"), ("unsafe", "no"), ("placed", "ok"), ("show", "none"))

    def test_framed(self):
        desk = desk_with("program make x 2 / put x 0 x / tell x")
        program = framed(read_program("make x 2\nput x 0 x\ntell x"))
        self.talk(desk, ("framed", "ok"), ("show", show_program(program).replace("\n", " / ")))
        self.no(desk, "framed", NotStraight, number=0)
        self.talk(desk, ("show", show_program(program).replace("\n", " / ")))
        desk.say("program " + " / ".join(["make x 1"] * 21))
        self.no(desk, "framed", TooMany, many=42)
        names = "abcdefg"
        desk.say("program " + " / ".join([f"make {name} 1" for name in names] + [f"put {name} 0 x" for name in reversed(names)]))
        self.no(desk, "framed", TooDeep, depth=7)
        desk.say("program tell x / either / or / end")
        self.no(desk, "framed", NotStraight, number=1)
        desk.say("program")
        self.talk(desk, ("framed", "ok"), ("show", "none"))


class Other:
    """What a desk is to answer, by the modules that its lines lead to."""

    def __init__(self):
        self.house, self.hands, self.rings, self.program = None, {}, {}, None

    def text(self, value):
        if isinstance(value, tuple):
            return f"{value[0]}:{value[1]}"
        return "none" if value is None else str(value)

    def row(self, values):
        return " ".join(self.text(value) for value in values) or "none"

    def parts(self, rows):
        return " / ".join(rows) or "none"

    def say(self, word, *things):
        return getattr(self, "say_" + word)(*things)

    def say_house(self, limit):
        self.house, self.hands, self.rings = House(limit), {}, {}
        return "ok"

    def say_begin(self, frame):
        return self.text(self.house.begin(frame))

    def say_finish(self, frame):
        return self.row(self.house.finish(frame))

    def say_caught(self, frame):
        return self.row(finish_caught(self.house, frame, self.hands))

    def say_moved(self, frame):
        ended, moved, self.hands = finish_moved(self.house, frame, self.hands)
        return " / ".join([self.row(ended)] + [self.row(pair) for pair in moved.items()])

    def say_make(self, frame, size):
        return self.text(self.house.make(frame, size))

    def say_put(self, way, k, value):
        self.house.put(way, k, value)
        return "ok"

    def say_hold(self, name, value):
        if isinstance(value, tuple):
            try:
                self.house.size(value)
            except Gone:
                pass
            except NoWay:
                raise NoValue(value)
        self.hands[name] = value
        return "ok"

    def say_drop(self, name):
        if name not in self.hands:
            raise NoNames(name)
        self.hands.pop(name)
        return "ok"

    def say_ring(self, name, frame, many):
        self.rings[name] = Ring(self.house, frame, many)
        return "ok"

    def say_turn(self, name):
        if name not in self.rings:
            raise NoNames(name)
        number, ended = self.rings[name].turn()
        return self.row([number] + ended)

    def say_used(self):
        return str(self.house.used())

    def say_left(self):
        return str(self.house.left())

    def say_greatest(self):
        return str(self.house.greatest())

    def say_standing(self):
        return self.row(self.house.standing())

    def say_row(self, frame):
        return self.row(self.house.row(frame))

    def say_rooms(self, frame):
        return self.row(self.house.rooms(frame))

    def say_cells(self, way):
        return self.row(self.house.cells(way))

    def say_get(self, way, k):
        return self.text(self.house.get(way, k))

    def say_hands(self):
        return self.parts(f"{name} {self.text(value)}" for name, value in self.hands.items())

    def say_kept(self, frame):
        return self.parts(f"{self.text(way)} {len(row)}" for way, row in kept(self.house, frame, self.hands).items())


FORMS = {
    "house": "n", "begin": "f", "finish": "f", "caught": "f", "moved": "f", "make": "fk", "put": "wkv", "hold": "hv",
    "drop": "h", "ring": "rfk", "turn": "r", "used": "", "left": "", "greatest": "", "standing": "", "row": "f", "rooms": "f",
    "cells": "w", "get": "wk", "hands": "", "kept": "f",
}
OFTEN = ["begin"] * 4 + ["make"] * 9 + ["put"] * 9 + ["hold"] * 4 + ["ring"] * 2 + ["turn"] * 4 + ["moved", "caught", "finish"]


def thrown_line(dice, frames, ways):
    """A line of the house as its word and what stands behind it."""
    word = dice.pick(OFTEN if dice.below(3) else [word for word in FORMS if word != "house" or not dice.below(6)])
    way = dice.pick(ways + [(0, 0), (1, 1)])
    made = {
        "n": 1 + dice.below(30), "f": dice.below(frames + 2) - (not dice.below(15)), "k": dice.below(4), "w": way,
        "v": dice.pick([None, 5, -3, way, way, way]), "h": dice.pick(["x", "y", "none"]), "r": dice.pick(["r", "s"]),
    }
    return (word,) + tuple(made[kind] for kind in FORMS[word])


def as_words(other, line):
    return " ".join([line[0]] + [part if type(part) is str else other.text(part) for part in line[1:]])


class Talks(Says):
    """Desks that are told lines which were thrown."""

    def talks(self, many, length):
        for seed in range(many):
            dice = Dice(seed)
            other = Other()
            other.say("house", 24)
            ways = []
            for turn in range(length):
                line = thrown_line(dice, other.house.begun(), ways)
                try:
                    answer = ("told", other.say(*line))
                    if line[0] == "make":
                        ways.append(tuple(int(part) for part in answer[1].split(":")))
                except RoomError as e:
                    answer = (type(e).__name__, vars(e))
                yield seed, turn, as_words(other, line), answer

    def answer(self, desk, line):
        try:
            return ("told", desk.say(line))
        except RoomError as e:
            return (type(e).__name__, vars(e))

    def test_as_the_modules_answer(self):
        met = {}
        for seed, turn, line, answer in self.talks(60, 60):
            if turn == 0:
                desk = desk_with("house 24")
            self.alike(self.answer(desk, line), answer, line)
            met[(line.split(" ")[0], answer[0] == "told")] = True
        for word in FORMS:
            self.assertIn((word, True), met)

    def test_what_is_refused_changes_nothing(self):
        """Of two desks only one is told what is refused, and what is no line."""
        for seed, turn, line, answer in self.talks(25, 60):
            if turn == 0:
                desk, calm = desk_with("house 24"), desk_with("house 24")
            refusal(self, NoLine, desk.say, WRONG[turn])
            self.alike(self.answer(desk, line), answer)
            if answer[0] == "told":
                self.alike(self.answer(calm, line), answer)
            for question in ("used", "left", "greatest", "standing", "hands", "rooms 0"):
                self.alike(self.answer(desk, question), self.answer(calm, question))

    def test_two_desks_have_nothing_in_common(self):
        one, two = Desk(), Desk()
        self.talk(one, ("house 9", "ok"), ("hold x 1", "ok"), ("ring r 0 1", "ok"), ("program tell x", "ok"))
        for line in HOUSE:
            self.no(two, line, NoHouse)
        for line in PROGRAM:
            self.no(two, line, NoProgram)
        self.talk(two, ("house 9", "ok"), ("hands", "none"), ("begin 0", "1"), ("program", "ok"))
        self.no(two, "turn r", NoNames, found="r")
        self.talk(one, ("standing", "0"), ("hands", "x 1"), ("show", "tell x"), ("turn r", "1"))
        talks = list(self.talks(2, 60))
        desks = [desk_with("house 24"), desk_with("house 24")]
        for first, second in zip(talks[:60], talks[60:]):
            self.alike(self.answer(desks[0], first[2]), first[3])
            self.alike(self.answer(desks[1], second[2]), second[3])

    def test_the_same_question_has_the_same_answer(self):
        desk = desk_with("house 9", "begin 0", "make 1 2", "hold x 1:0", "program frame f / make x 1 / end / put x 0 x")
        questions = ["used", "left", "greatest", "standing", "row 1", "rooms 1", "cells 1:0", "get 1:0 0", "hands", "kept 1"]
        questions += ["show", "free -", "run caught 5 y", "look", "most", "unsafe"]
        answers = [desk.say(line) for line in questions]
        for turn in range(2):
            self.alike([desk.say(line) for line in questions], answers)
        self.alike([desk.say(line) for line in reversed(questions)], answers[::-1])

    def test_programs(self):
        for dice, program in thrown_programs(80):
            desk = desk_with("program " + show_program(program).replace("\n", " / "))
            self.alike(desk.say("show"), show_program(program).replace("\n", " / "))
            for choices in itertools.islice(all_choices(program), 4):
                word = "".join("y" if choice else "n" for choice in choices) or "-"
                free = free_run(program, choices)
                self.alike(desk.say("free " + word), " / ".join(self.told(free)))
                for manner in ("plain", "caught", "moved"):
                    limit = dice.pick([1000, 5, 1])
                    run = run_in(program, choices, limit, manner)
                    self.alike(
                        desk.say(f"run {manner} {limit} {word}"), " / ".join(self.told(run) + [str(run.greatest()[0])]),
                    )
            labels = [f"{number} {row[0]}" for number, row in look(program).items()]
            self.alike(desk.say("look"), " / ".join(labels) or "none")
            self.alike(desk.say("most"), str(most(program)[0]))
            self.alike(desk.say("unsafe"), "no" if unsafe(program) is None else "yes")
            self.alike(desk.say("placed"), "ok")
            self.alike(desk.say("show"), show_program(placed(program)).replace("\n", " / "))
            self.alike(desk.say("unsafe"), "no")

    def told(self, run):
        words = {None: "none", "thing": "thing"}
        tellings = [
            ("yes" if each else "no") if type(each) is bool else words.get(each, str(each)) for each in run.told()
        ]
        ending = []
        for part in run.ending():
            ending.extend(part if type(part) is tuple else [part])
        return [" ".join(tellings) or "none", " ".join(str(part) for part in ending)]


if __name__ == "__main__":
    unittest.main()
