"""A desk that is told lines, and answers each by a text."""

from framerooms.errors import NoHouse, NoLine, NoNames, NoProgram, NoValue
from framerooms.framing import framed
from framerooms.house import House
from framerooms.inframes import run_in
from framerooms.lines import HOUSE_LINES, PROGRAM_LINES, parts_text, read_line, run_texts, values_text
from framerooms.looking import look, most, placed, unsafe
from framerooms.moving import finish_moved
from framerooms.progtext import read_program, show_program
from framerooms.rings import Ring
from framerooms.running import free_run
from framerooms.ways import finish_caught, kept
from framerooms.words import value_text

OK = "ok"


def do_house(desk, parts):
    desk.house = House(parts[0])
    desk.hands = {}
    desk.rings = {}
    return OK


def do_program(desk, parts):
    desk.program = read_program(parts[0])
    return OK


def do_begin(desk, parts):
    return values_text([desk.house.begin(parts[0])])


def do_finish(desk, parts):
    return values_text(desk.house.finish(parts[0]))


def do_caught(desk, parts):
    return values_text(finish_caught(desk.house, parts[0], desk.hands))


def do_moved(desk, parts):
    told = finish_moved(desk.house, parts[0], desk.hands)
    desk.hands = told[2]
    return parts_text([values_text(told[0])] + [values_text(pair) for pair in told[1].items()])


def do_make(desk, parts):
    return values_text([desk.house.make(parts[0], parts[1])])


def do_put(desk, parts):
    desk.house.put(parts[0], parts[1], parts[2])
    return OK


def do_hold(desk, parts):
    if not desk.house.is_value(parts[1]):
        raise NoValue(parts[1])
    desk.hands[parts[0]] = parts[1]
    return OK


def do_drop(desk, parts):
    want_named(desk.hands, parts[0])
    desk.hands.pop(parts[0])
    return OK


def do_ring(desk, parts):
    desk.rings[parts[0]] = Ring(desk.house, parts[1], parts[2])
    return OK


def do_turn(desk, parts):
    want_named(desk.rings, parts[0])
    told = desk.rings[parts[0]].turn()
    return values_text([told[0]] + told[1])


def want_named(named, name):
    if name not in named:
        raise NoNames(name)


def tell_used(desk, parts):
    return values_text([desk.house.used()])


def tell_left(desk, parts):
    return values_text([desk.house.left()])


def tell_greatest(desk, parts):
    return values_text([desk.house.greatest()])


def tell_standing(desk, parts):
    return values_text(desk.house.standing())


def tell_row(desk, parts):
    return values_text(desk.house.row(parts[0]))


def tell_rooms(desk, parts):
    return values_text(desk.house.rooms(parts[0]))


def tell_cells(desk, parts):
    return values_text(desk.house.cells(parts[0]))


def tell_get(desk, parts):
    return values_text([desk.house.get(parts[0], parts[1])])


def tell_hands(desk, parts):
    return parts_text([name + " " + value_text(value) for name, value in desk.hands.items()])


def tell_kept(desk, parts):
    rows = kept(desk.house, parts[0], desk.hands)
    return parts_text([values_text([way, len(row)]) for way, row in rows.items()])


def tell_show(desk, parts):
    return parts_text(show_program(desk.program).split("\n")) if desk.program.deeds() else "none"


def tell_free(desk, parts):
    return parts_text(run_texts(free_run(desk.program, parts[0])))


def tell_run(desk, parts):
    run = run_in(desk.program, parts[2], parts[1], parts[0])
    return parts_text(run_texts(run) + [value_text(run.greatest()[0])])


def tell_look(desk, parts):
    return parts_text([value_text(number) + " " + told[0] for number, told in look(desk.program).items()])


def tell_most(desk, parts):
    return value_text(most(desk.program)[0])


def tell_unsafe(desk, parts):
    return "no" if unsafe(desk.program) is None else "yes"


def do_placed(desk, parts):
    desk.program = placed(desk.program)
    return OK


def do_framed(desk, parts):
    desk.program = framed(desk.program)
    return OK


ANSWERS = {
    "house": do_house, "program": do_program,
    "begin": do_begin, "finish": do_finish, "caught": do_caught, "moved": do_moved, "make": do_make, "put": do_put,
    "hold": do_hold, "drop": do_drop, "ring": do_ring, "turn": do_turn,
    "used": tell_used, "left": tell_left, "greatest": tell_greatest, "standing": tell_standing, "row": tell_row,
    "rooms": tell_rooms, "cells": tell_cells, "get": tell_get, "hands": tell_hands, "kept": tell_kept,
    "show": tell_show, "free": tell_free, "run": tell_run, "look": tell_look, "most": tell_most,
    "unsafe": tell_unsafe, "placed": do_placed, "framed": do_framed,
}


class Desk:
    """A house with hands and rings, and a program, as far as lines have made them."""

    def __init__(self):
        self.house = None
        self.hands = {}
        self.rings = {}
        self.program = None

    def say(self, line):
        parts = read_line(line)
        if not parts:
            raise NoLine(line)
        if parts[0] in HOUSE_LINES and self.house is None:
            raise NoHouse()
        if parts[0] in PROGRAM_LINES and self.program is None:
            raise NoProgram()
        answer = ANSWERS[parts[0]]
        return answer(self, parts[1:])
