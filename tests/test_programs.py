"""Points [71] to [75], and framerooms/programs.py in the interface."""

import copy
import itertools
import unittest

from framerooms.errors import NoDeed, NoLabel, NoMaking, RoomError, TooDeep, TooLong, TooMany, TooWide, Twice
from framerooms.programs import Program
from framerooms.running import free_run
from tests.helper import LONG, Case, any_things, copied, outcome, refusal, seen_program, thrown_programs
from tests.model import Model, flat, with_bodies

TELL = ("tell", "x")

# For each form of deed good parts for each of its places, the edges among them.
NAMES = ["x", "zzzzzz", "none", "ground", "in", "make"]
VALUES = [None, 0, -1, LONG, -LONG]
BODIES = [[], (), [TELL], (TELL, TELL)]
LABELS = ["f", "abcdef", "none", "end"]
GOOD = {
    "make": [NAMES, [1, 2, 6], [None, "ground"]],
    "put": [NAMES, [0, 5], NAMES],
    "get": [NAMES, NAMES, [0, 3, 5]],
    "set": [NAMES, VALUES],
    "copy": [NAMES, NAMES],
    "more": [NAMES, NAMES, VALUES[1:]],
    "tell": [NAMES],
    "same": [NAMES, NAMES],
    "frame": [LABELS, BODIES],
    "turns": [LABELS, [1, 3], [0, 1, 4], BODIES],
    "either": [BODIES, BODIES],
}
NO_NAMES = ["", "A", "x1", "abcdefg", "x y", "x\n", " x", "-"]
NO_SIZES = [0, 7, -1, LONG, True]
NO_CELLS = [-1, 6, LONG, False, True]
BAD = {
    "make": [NO_NAMES, NO_SIZES, NO_NAMES + [0]],
    "put": [NO_NAMES, NO_CELLS, NO_NAMES],
    "get": [NO_NAMES, NO_NAMES, NO_CELLS],
    "set": [NO_NAMES, [True, False, "0", (0, 0)]],
    "copy": [NO_NAMES, NO_NAMES],
    "more": [NO_NAMES, NO_NAMES, [None, True, False, "1"]],
    "tell": [NO_NAMES],
    "same": [NO_NAMES, NO_NAMES],
    "frame": [NO_NAMES + ["ground"], [None, "", {}, "tell x", 0]],
    "turns": [NO_NAMES + ["ground"], [0, 4, True], [-1, 5, False, True], [None, "", {}, 0]],
    "either": [[None, "", {}, 0], [None, "", {}, 0]],
}


def good_deeds():
    for word, parts in GOOD.items():
        for deed in itertools.product(*parts):
            yield (word,) + deed


def a_good_deed(word):
    return (word,) + tuple(part[0] for part in GOOD[word])


def as_tuples(body):
    return tuple(
        tuple(as_tuples(part) if place in with_bodies(deed) else part for place, part in enumerate(deed))
        for deed in body
    )


def deep(depth, inner=()):
    """So many deeds with bodies within one another, of all three words."""
    body = list(inner)
    for turn in range(depth):
        label = "abcdefghijklmnopqrstuvwxyzabcdefgh"[turn] * (1 + turn // 26)
        body = [
            ("frame", label, body), ("turns", label, 1, 1, body), ("either", [], body), ("either", body, ()),
        ][turn % 4:][:1]
    return body


class Forms(Case):
    def test_every_form(self):
        for deed in good_deeds():
            self.alike(Program([deed]).told(), as_tuples([deed]))
            self.alike(Program((deed,)).told(), as_tuples([deed]))

    def no_deed(self, deeds, found):
        answer = refusal(self, NoDeed, Program, deeds)
        self.assertIs(answer.found, found)

    def test_one_part_is_wrong(self):
        for word, parts in BAD.items():
            for place, things in enumerate(parts):
                for thing in things:
                    deed = list(a_good_deed(word))
                    deed[1 + place] = thing
                    deed = tuple(deed)
                    self.no_deed([deed], deed)
                    self.no_deed((TELL, deed, TELL), deed)

    def test_a_part_of_any_kind(self):
        for word, parts in GOOD.items():
            for place in range(len(parts)):
                for thing in any_things():
                    deed = list(a_good_deed(word))
                    deed[1 + place] = thing
                    self.by_its_form(tuple(deed))

    def by_its_form(self, deed):
        """The deed is refused just where one of its parts isn't as 71 says."""
        def name(thing):
            return type(thing) is str and thing.isalpha() and thing.islower() and len(thing) <= 6

        def number(low, high):
            return lambda thing: type(thing) is int and low <= thing <= high

        def whole(thing):
            return type(thing) is int

        def body(thing):
            return type(thing) in (list, tuple)

        def label(thing):
            return name(thing) and thing != "ground"

        forms = {
            "make": [name, number(1, 6), lambda thing: thing is None or name(thing)],
            "put": [name, number(0, 5), name], "get": [name, name, number(0, 5)],
            "set": [name, lambda thing: thing is None or whole(thing)],
            "copy": [name, name], "more": [name, name, whole], "tell": [name], "same": [name, name],
            "frame": [label, body], "turns": [label, number(1, 3), number(0, 4), body], "either": [body, body],
        }
        if not all(test(part) for test, part in zip(forms[deed[0]], deed[1:])):
            self.no_deed([deed], deed)
            return
        bodies = [part for place, part in enumerate(deed) if place in with_bodies(deed)]
        wrong = [thing for part in bodies for thing in part]
        if wrong:
            # No thing that any_things has in a list or tuple is a deed.
            self.no_deed([deed], wrong[0])
        elif deed[0] == "make" and deed[3] not in (None, "ground"):
            self.assertEqual(refusal(self, NoLabel, Program, [deed]).label, deed[3])
        else:
            self.assertEqual(Program([deed]).told(), as_tuples([deed]))

    def test_too_few_and_too_many_parts(self):
        for word in GOOD:
            deed = a_good_deed(word)
            for wrong in (deed[:-1], deed + (deed[-1],), deed + (None,), deed[1:], deed[:1] + deed):
                self.no_deed([wrong], wrong)

    def test_a_list_is_no_deed(self):
        for word in GOOD:
            deed = list(a_good_deed(word))
            self.no_deed([deed], deed)

    def test_no_such_word(self):
        for word in ("", "Make", "make ", "ring", "end", "or", "begin", "turn", None, 0, ["make"], {}, ("make",), True):
            for more in ((), ("x",), ("x", "y"), ("x", 1, None), ("f", [])):
                deed = (word,) + more
                self.no_deed([deed], deed)

    def test_what_is_no_body_at_all(self):
        for thing in any_things():
            if type(thing) not in (list, tuple):
                self.no_deed(thing, thing)
            elif len(thing):
                self.no_deed(thing, thing[0])
            else:
                self.assertEqual(Program(thing).told(), ())

    def test_any_thing_in_the_place_of_a_deed(self):
        for thing in any_things():
            self.no_deed([thing], thing)
            self.no_deed([TELL, ("frame", "f", (TELL, thing))], thing)
            self.no_deed([("either", [TELL], [("turns", "f", 1, 0, [thing])])], thing)

    def test_a_deed_by_itself_is_no_body_of_it(self):
        self.no_deed(TELL, "tell")
        self.no_deed(("frame", "f", []), "frame")


class OrderOfReading(Case):
    def first(self, deeds, found):
        self.assertIs(refusal(self, NoDeed, Program, deeds).found, found)

    def test_the_first_of_several(self):
        one, two = ("tell", "X"), ("tell", "Y")
        self.first([TELL, one, two], one)
        self.first([("frame", "f", [one]), two], one)
        self.first([("either", [one], [two])], one)
        self.first([("either", [TELL], [two]), one], two)
        self.first([("turns", "f", 1, 0, [("frame", "g", [two])]), one], two)

    def test_a_deed_with_bodies_by_itself_first(self):
        one = ("tell", "X")
        for deed in (
            ("frame", "F", [one]), ("turns", "f", 0, 1, [one]), ("turns", "f", 1, 5, [one]),
            ("either", [one], None), ("either", [one], "x"), ("either", [one], {}), ("frame", "ground", [one]),
        ):
            self.first([deed], deed)
            self.first([("frame", "f", [deed])], deed)

    def test_a_body_that_is_none_is_not_told_by_itself(self):
        deed = ("frame", "f", "tell x")
        self.first([deed], deed)

    def test_the_whole_is_looked_at_ahead_of_what_it_has(self):
        for whole in ({("tell", "x"): 1}, "tell", None, 3):
            self.first(whole, whole)


# One body for each refusal, none of which is due for another one; in the order of 73.
def wide():
    return [("either", [], [])] * 5


def long():
    return [("turns", "q", 1, 4, [TELL] * 24)]


def faults():
    return [
        (NoDeed, "found", ("tell",), lambda: [("tell",)]),
        (TooMany, "many", 41, lambda: [TELL] * 41),
        (TooDeep, "depth", 7, lambda: deep(7)),
        (Twice, "label", "f", lambda: [("frame", "f", [("frame", "f", [])])]),
        (TooWide, "many", 5, wide),
        (TooLong, "many", 101, long),
    ]


class OrderOfRefusals(Case):
    def test_each_by_itself(self):
        for kind, field, held, make in faults():
            answer = refusal(self, kind, Program, make())
            self.alike(getattr(answer, field), held)

    def test_any_two_or_more_of_them(self):
        rows = faults()
        for many in range(2, len(rows) + 1):
            for some in itertools.combinations(rows, many):
                for order in (some, tuple(reversed(some))):
                    body = [deed for row in order for deed in row[3]()]
                    if len(body) > 200:
                        continue
                    kinds = [row[0] for row in some]
                    # What many deeds there are together may be due by itself.
                    if sum(1 for deed in flat(body) if len(deed) > 1) > 40 and NoDeed not in kinds:
                        kinds = [TooMany] + kinds
                    refusal(self, kinds[0], Program, body)

    def test_no_label_in_the_place_of_twice(self):
        make = ("make", "x", 1, "q")
        self.assertEqual(refusal(self, NoLabel, Program, [make] + wide() + long()).label, "q")
        self.assertEqual(refusal(self, NoLabel, Program, wide() + [make]).label, "q")
        refusal(self, TooDeep, Program, [make] + deep(7))
        refusal(self, TooMany, Program, [make] * 41)
        refusal(self, NoDeed, Program, [make, None])

    def test_twice_and_no_label_as_they_are_read(self):
        make = ("make", "x", 1, "q")
        twice = ("frame", "f", [("turns", "f", 1, 1, [make])])
        self.assertEqual(refusal(self, NoLabel, Program, [make, twice]).label, "q")
        self.assertEqual(refusal(self, Twice, Program, [twice, make]).label, "f")
        self.assertEqual(refusal(self, NoLabel, Program, [("frame", "f", [make, ("frame", "f", [])])]).label, "q")
        self.assertEqual(refusal(self, Twice, Program, [("either", [twice], [make])]).label, "f")
        self.assertEqual(refusal(self, NoLabel, Program, [("either", [make], [twice])]).label, "q")
        two = ("make", "x", 1, "two")
        self.assertEqual(refusal(self, NoLabel, Program, [make, two]).label, "q")

    def test_too_many_deeds_and_too_deep(self):
        self.assertEqual(refusal(self, TooMany, Program, deep(7) + [TELL] * 34).many, 41)
        self.assertEqual(refusal(self, TooDeep, Program, deep(7) + [TELL] * 33).depth, 7)


class Bounds(Case):
    def test_forty_deeds(self):
        self.assertEqual(Program([TELL] * 40).deeds(), 40)
        for many in (41, 42, 199, 200):
            self.alike(refusal(self, TooMany, Program, [TELL] * many).many, many)

    def test_deeds_in_bodies_and_with_bodies_count(self):
        def body(many):
            return [("frame", "f", [TELL] * 9), ("either", [TELL] * 9, [TELL] * 9), ("turns", "f", 1, 1, [TELL] * many)]
        self.assertEqual(Program(body(10)).deeds(), 40)
        self.alike(refusal(self, TooMany, Program, body(11)).many, 41)
        # So many as they stand there, not as they are done.
        self.assertEqual(Program([("turns", "f", 1, 0, [TELL] * 39)]).deeds(), 40)
        self.alike(refusal(self, TooMany, Program, [("turns", "f", 1, 0, [TELL] * 40)]).many, 41)

    def test_six_deeds_with_bodies_within_one_another(self):
        for depth in range(7):
            self.assertEqual(Program(deep(depth, [TELL])).deeds(), depth + 1)
        for depth in range(7, 31):
            self.alike(refusal(self, TooDeep, Program, deep(depth)).depth, depth)
        self.alike(refusal(self, TooDeep, Program, [TELL, ("frame", "z", []), ("either", deep(2), deep(6))]).depth, 7)
        self.alike(refusal(self, TooDeep, Program, [("either", deep(6), [])] + deep(3)).depth, 7)

    def test_beside_one_another_is_not_deep(self):
        Program([("frame", "f", [])] * 20 + deep(6))

    def test_four_choices(self):
        either = ("either", [], [])
        self.assertEqual(Program([either] * 4).widest(), 4)
        self.alike(refusal(self, TooWide, Program, [either] * 5).many, 5)
        self.alike(refusal(self, TooWide, Program, [("turns", "f", 1, 4, [either, either])]).many, 8)
        self.assertEqual(Program([("turns", "f", 1, 2, [either, either])]).widest(), 4)
        # Of an either only the more of its two bodies counts.
        self.assertEqual(Program([("either", [either] * 3, [either] * 3)]).widest(), 4)
        self.alike(refusal(self, TooWide, Program, [("either", [], [either] * 4)]).many, 5)
        self.alike(refusal(self, TooWide, Program, [("either", [either] * 4, [])]).many, 5)

    def test_a_hundred_steps(self):
        self.assertEqual(Program([("turns", "f", 3, 4, [TELL] * 23), TELL, TELL, TELL]).longest(), 100)
        body = [("turns", "f", 3, 4, [TELL] * 23)] + [TELL] * 4
        self.alike(refusal(self, TooLong, Program, body).many, 101)
        self.alike(refusal(self, TooLong, Program, long()).many, 101)
        self.alike(refusal(self, TooLong, Program, [("turns", "f", 1, 4, [("turns", "g", 1, 4, [TELL] * 8)])]).many, 153)

    def test_wide_and_long_by_their_greater_bodies(self):
        body = [("either", [("either", [], [])] * 3, [("turns", "f", 1, 4, [TELL] * 23)]), TELL, TELL]
        program = Program(body)
        self.assertEqual((program.widest(), program.longest()), (4, 100))
        self.alike(refusal(self, TooLong, Program, body + [TELL]).many, 101)


class Labels(Case):
    def test_around_blocks(self):
        for label in (None, "ground", "f", "g", "h"):
            Program([("frame", "f", [("turns", "g", 1, 1, [("either", [], [("frame", "h", [("make", "x", 1, label)])])])])])

    def test_what_is_not_around(self):
        make = ("make", "x", 1, "f")
        for body in (
            [make], [make, ("frame", "f", [])], [("frame", "f", []), make], [("frame", "g", [make])],
            [("either", [("frame", "f", [])], [make])], [("either", [make], [("turns", "f", 1, 1, [])])],
            [("frame", "g", [("frame", "f", []), make])],
        ):
            self.alike(refusal(self, NoLabel, Program, body).label, "f")

    def test_twice(self):
        for outer, inner in itertools.product((("frame", "f"), ("turns", "f", 1, 0)), repeat=2):
            self.alike(refusal(self, Twice, Program, [outer + ([inner + ([],)],)]).label, "f")
            body = [outer + ([("either", [], [("frame", "g", [inner + ([],)])])],)]
            self.alike(refusal(self, Twice, Program, body).label, "f")

    def test_the_same_label_beside(self):
        block = ("frame", "f", [("make", "x", 1, "f")])
        Program([block, block, ("either", [block], [block]), ("frame", "g", [block, block])])


class Told(Case):
    def test_the_deeds(self):
        body = [("frame", "f", [("either", [TELL], ()), ("turns", "g", 2, 3, [TELL, TELL])]), ("set", "y", None)]
        program = Program(body)
        self.alike(program.told(), (
            ("frame", "f", (("either", (("tell", "x"),), ()), ("turns", "g", 2, 3, (("tell", "x"), ("tell", "x"))))),
            ("set", "y", None),
        ))
        self.assertEqual(program.deeds(), 7)

    def test_nothing(self):
        for body in ([], ()):
            self.alike(seen_program(Program(body)), ((), 0, [], [], [], 0, 0))

    def test_names(self):
        program = Program([
            ("make", "c", 1, "ground"), ("frame", "f", [("put", "b", 0, "a")]), ("get", "d", "c", 0),
            ("either", [("set", "h", 1)], [("copy", "g", "e")]), ("more", "i", "f", 3), ("same", "k", "j"), ("tell", "l"),
        ])
        self.alike(program.names(), ["c", "b", "a", "d", "h", "g", "e", "i", "f", "k", "j", "l"])

    def test_neither_words_nor_labels_are_names(self):
        program = Program([("turns", "none", 1, 1, [("make", "make", 1, "none")]), ("set", "set", None)])
        self.alike(program.names(), ["make", "set"])

    def test_makings_and_what_is_around(self):
        make = ("make", "x", 1, None)
        program = Program([
            make,
            ("frame", "f", [TELL, ("either", [make], [("turns", "g", 1, 0, [make, ("frame", "h", [make])])]), make]),
            ("frame", "g", [("frame", "f", [make])]),
        ])
        self.alike(program.makings(), [0, 4, 6, 8, 9, 12])
        self.alike([program.around(number) for number in program.makings()], [
            ["ground"], ["f", "ground"], ["g", "f", "ground"], ["h", "g", "f", "ground"], ["f", "ground"],
            ["f", "g", "ground"],
        ])

    def test_what_is_no_making(self):
        program = Program([TELL, ("make", "x", 1, None), ("frame", "f", [("make", "x", 1, None)])])
        self.alike(program.makings(), [1, 3])
        run = free_run(program, ())
        for thing in any_things() + [run, 3 + LONG, 4, -3]:
            if type(thing) is int and thing in (1, 3):
                continue
            self.assertIs(refusal(self, NoMaking, program.around, thing).found, thing)

    def test_widest_and_longest(self):
        either, make = ("either", [TELL, TELL], [TELL]), ("make", "x", 1, None)
        for body, widest, longest in (
            ([TELL], 0, 1), ([make, TELL], 0, 2), ([("frame", "f", [])], 0, 2), ([("frame", "f", [make])], 0, 3),
            ([("turns", "f", 1, 0, [make, either])], 0, 1), ([("turns", "f", 1, 1, [])], 0, 2),
            ([("turns", "f", 3, 4, [make])], 0, 9), ([("turns", "f", 1, 3, [either])], 3, 13),
            ([("either", [], [])], 1, 1), ([either], 1, 3), ([("either", [], [either])], 2, 4),
            ([("either", [either, either], [TELL] * 8)], 3, 9), ([("frame", "f", [either]), either], 2, 8),
        ):
            program = Program(body)
            self.alike((program.widest(), program.longest()), (widest, longest))

    def test_against_runs(self):
        # Deeds that are never stopped, so that the widest and the longest run are met.
        for dice, program in thrown_programs(150):
            calm = Program(stilled(program.told()))
            runs = [
                Model(calm.told(), choices).free()
                for choices in itertools.product((False, True), repeat=calm.widest())
            ]
            self.assertEqual(max(len(run[4]) for run in runs), calm.widest())
            self.assertEqual(max(run[2] for run in runs), calm.longest())

    def test_against_a_reading(self):
        for dice, program in thrown_programs(150):
            deeds = flat(program.told())
            self.assertEqual(program.deeds(), len(deeds))
            self.assertEqual(program.makings(), [k for k, deed in enumerate(deeds) if deed[0] == "make"])
            for number in program.makings():
                label = deeds[number][3]
                self.assertIn("ground" if label is None else label, program.around(number))


def stilled(body):
    """The same deeds, a tell in the place of each without bodies."""
    return [
        tuple(stilled(part) if place in with_bodies(deed) else part for place, part in enumerate(deed))
        if with_bodies(deed) else TELL
        for deed in body
    ]


class Kept(Case):
    def test_lists_are_the_askers_own(self):
        program = Program([("make", "x", 1, None), ("frame", "f", [("make", "y", 1, "f")])])
        before = copied(seen_program(program))
        for told in (program.names(), program.makings(), program.around(0), program.around(2)):
            told.append("no")
            told.reverse()
        self.alike(seen_program(program), before)
        self.assertIsNot(program.names(), program.names())
        self.assertIsNot(program.makings(), program.makings())
        self.assertIsNot(program.around(0), program.around(0))

    def test_what_is_handed_in_is_copied(self):
        inner = [("make", "x", 1, None)]
        body = [("frame", "f", inner), ("either", [], inner)]
        before = copy.deepcopy(body)
        program = Program(body)
        self.alike(body, before)
        seen = seen_program(program)
        inner.append(TELL)
        body.append(TELL)
        self.alike(seen_program(program), seen)

    def test_a_refusal_holds_the_very_thing(self):
        wrong = ["tell", "x"]
        self.assertIs(refusal(self, NoDeed, Program, [("frame", "f", [wrong])]).found, wrong)

    def test_told_may_be_handed_in_again(self):
        for dice, program in thrown_programs(60):
            self.alike(seen_program(Program(program.told())), seen_program(program))

    def test_the_same_each_time(self):
        for dice, program in thrown_programs(30):
            self.alike(seen_program(program), seen_program(program))

    def test_all_refusals_are_room_errors(self):
        for kind, field, held, make in faults():
            self.assertEqual(outcome(Program, make()), (kind.__name__, {field: held}))
            self.assertEqual(kind.__bases__, (RoomError,))


if __name__ == "__main__":
    unittest.main()
