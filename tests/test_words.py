"""Points [2], [11], [12] and [13], and framerooms/words.py in the interface."""

import unittest

from framerooms.errors import NoValue
from framerooms.words import is_name, is_pair, is_whole, value_of, value_text
from tests.helper import LONG, any_things, copied, is_int, refusal

# The signs that texts may have: from the blank to ~ but the percent sign, and the line feed.
SIGNS = [chr(code) for code in range(32, 127) if code != 37] + ["\n"]
LETTERS = [chr(code) for code in range(97, 123)]


class Whole(unittest.TestCase):
    def told(self, thing, low, high, answer):
        self.assertIs(is_whole(thing, low, high), answer, (thing, low, high))

    def test_both_bounds_are_counted(self):
        for low, high in ((0, 0), (1, 6), (-3, 3), (-9, -9), (-8, -5), (LONG, LONG + 2), (-LONG, LONG)):
            for thing, answer in (
                (low - 1, False), (low, True), ((low + high) // 2, True), (high, True), (high + 1, False),
            ):
                self.told(thing, low, high, answer)

    def test_every_number_beside_and_between_small_bounds(self):
        for low in range(-4, 5):
            for high in range(-4, 5):
                for thing in range(-6, 7):
                    self.told(thing, low, high, thing in range(low, high + 1))

    def test_none_is_where_the_first_bound_is_above_the_second(self):
        for low, high in ((1, 0), (6, 1), (3, -3), (LONG + 1, LONG), (LONG, -LONG)):
            for thing in (low, high, (low + high) // 2, 0, low - 1, high + 1, low + 1, high - 1):
                self.told(thing, low, high, False)

    def test_numbers_of_thirty_figures(self):
        top = 10 ** 30 - 1
        self.told(top, 0, top, True)
        self.told(top, 0, top - 1, False)
        self.told(top - 1, 0, top - 1, True)
        self.told(-top, -top, 0, True)
        self.told(-top, -top + 1, 0, False)
        self.told(top, top, top, True)
        self.told(0, -top, top, True)

    def test_truths_are_none(self):
        for truth in (True, False):
            for low, high in ((0, 1), (0, 0), (1, 1), (-5, 5), (-LONG, LONG)):
                self.told(truth, low, high, False)

    def test_things_of_other_kinds(self):
        for thing in any_things():
            if not is_int(thing):
                self.told(thing, 0, 1, False)
                self.told(thing, -LONG, LONG, False)
                self.told(thing, 1, 0, False)


class Name(unittest.TestCase):
    def told(self, thing, answer):
        self.assertIs(is_name(thing), answer, thing)

    def test_one_to_six_letters(self):
        for length in range(0, 12):
            self.told("a" * length, 1 <= length <= 6)
            self.told("abcdefghijklmnopqrstuvwxyz"[-length:] if length else "", 1 <= length <= 6)
        self.told("a" * 4000, False)

    def test_each_sign_alone_and_among_letters(self):
        for sign in SIGNS:
            answer = sign in LETTERS
            for text in (sign, sign + "b", "b" + sign, "ab" + sign + "cde", sign * 6, "abcde" + sign):
                self.told(text, answer)

    def test_six_letters_and_a_sign_more(self):
        for sign in SIGNS:
            self.told("abcdef" + sign, False)
            self.told(sign + "abcdef", False)

    def test_words_that_are_names(self):
        for text in ("x", "none", "ground", "true", "az", "zzzzzz"):
            self.told(text, True)

    def test_things_of_other_kinds(self):
        for thing in any_things():
            if not isinstance(thing, str):
                self.told(thing, False)
        for thing in (["a"], ("a",), {"a": "a"}, ["a", "b"], ("a", "b"), [["a"]]):
            self.told(thing, False)


class Pair(unittest.TestCase):
    def told(self, thing, answer):
        self.assertIs(is_pair(thing), answer, thing)

    def test_two_numbers_from_nought_on(self):
        for first in (0, 1, 2, 100, 101, LONG, 10 ** 30 - 1):
            for second in (0, 1, 13, 10 ** 30 - 1):
                self.told((first, second), True)

    def test_numbers_below_nought(self):
        for below in (-1, -2, -LONG):
            for other in (0, 1, -1, LONG):
                self.told((below, other), False)
                self.told((other, below), False)

    def test_tuples_of_other_lengths(self):
        for length in (0, 1, 3, 4):
            self.told((1,) * length, False)
            self.told((0,) * length, False)

    def test_truths_and_other_things_in_it(self):
        for thing in any_things():
            answer = is_int(thing) and thing >= 0
            self.told((thing, 1), answer)
            self.told((1, thing), answer)
            self.told((thing, thing), answer)

    def test_things_of_other_kinds(self):
        for thing in any_things():
            if not isinstance(thing, tuple):
                self.told(thing, False)
        for thing in ([0, 0], [2, 13], {0: 0, 1: 1}, "12", "2:13", [(0, 1)], ((0, 1),), ((0, 1), (0, 1))):
            self.told(thing, False)


class NothingChanges(unittest.TestCase):
    def test_what_is_handed_in_stays(self):
        for thing in any_things():
            before = copied(thing)
            is_whole(thing, 0, 6)
            is_name(thing)
            is_pair(thing)
            self.assertEqual(thing, before)

    def test_asked_again_it_is_the_same(self):
        for thing in any_things():
            for ask in (is_name, is_pair, lambda each: is_whole(each, 0, 6)):
                self.assertIs(ask(thing), ask(thing))


VALUES = [
    (None, "none"),
    (0, "0"), (7, "7"), (10, "10"), (100, "100"), (-1, "-1"), (-7, "-7"), (-10, "-10"), (42, "42"),
    (1234567890, "1234567890"), (-9876543210, "-9876543210"),
    (10 ** 29, "1" + "0" * 29), (10 ** 30 - 1, "9" * 30), (1 - 10 ** 30, "-" + "9" * 30),
    (10 ** 39, "1" + "0" * 39), (10 ** 40 - 1, "9" * 40), (1 - 10 ** 40, "-" + "9" * 40),
    ((0, 0), "0:0"), ((2, 13), "2:13"), ((13, 2), "13:2"), ((0, 7), "0:7"), ((100, 0), "100:0"),
    ((10 ** 30 - 1, 10 ** 29), "9" * 30 + ":1" + "0" * 29),
    ((10 ** 40 - 1, 10 ** 39), "9" * 40 + ":1" + "0" * 39),
]

NO_TEXTS = [
    # those that the point names
    "07", "+7", "-0", "1:", "1:-2", "None", "", " ", "1 2", "7 ", " 7", "1: 2", "1 :2", " 1:2", "1:2 ",
    # numbers
    "00", "-00", "-07", "-7-", "7-", "--7", "-", "+", "+0", "- 7", "-+7", "+-7", "0-", "000000", "1_000", "1,000",
    "0x1", "0b1", "1.0", "1.", ".1", "1e3", "7\n", "\n7", "1\n2", "-\n7", "seven", "7a", "a7", "inf", "nan", "(7)",
    # pairs
    ":", "::", ":1", "-1:2", "+1:2", "1:+2", "-0:1", "1:-0", "01:2", "1:02", "00:0", "0:00", "1:2:3", "1::2", ":1:2",
    "1:2:", "1:none", "none:1", "none:none", "1:2\n", "1\n:2", "1:\n2", "\n1:2", "(2, 13)", "(2,13)", "2,13", "2;13",
    "1:1_0", "1_0:1", "a:b", "-:1", "1:-", "0:-1", "-1:-2", "1:2:3:4",
    # words
    "NONE", "nonE", "none ", " none", "none\n", "\nnone", "nonenone", "non", "one", "null", "True", "False", "-none",
    "no ne", "none.", "'none'", "thing",
]


class ValueText(unittest.TestCase):
    def test_texts_of_values(self):
        for value, text in VALUES:
            self.assertEqual(value_text(value), text)
            self.assertIs(type(value_text(value)), str)

    def test_small_numbers_and_pairs(self):
        for first in range(-120, 121):
            self.assertEqual(value_text(first), str(first))
            for second in range(0, 12):
                if first >= 0:
                    self.assertEqual(value_text((first, second)), "%d:%d" % (first, second))

    def test_what_is_no_value_is_refused(self):
        for thing in any_things():
            if thing is not None and not is_int(thing) and thing != (0, 1):
                self.assertIs(refusal(self, NoValue, value_text, thing).found, thing)

    def test_truths_are_no_values(self):
        for thing in (True, False, (True, 1), (1, True), (0, False), (False, 0), (True, True)):
            self.assertIs(refusal(self, NoValue, value_text, thing).found, thing)

    def test_what_is_no_pair_is_refused(self):
        for thing in (
            (), (1,), (1, 2, 3), (-1, 2), (1, -2), (-1, -2), (None, 1), (1, None), ("1", "2"), [2, 13], [], (2, [13]),
            ((1, 2), 3), (1, (2, 3)), ((1, 2),), {2: 13}, {1: 2, 3: 4},
        ):
            self.assertIs(refusal(self, NoValue, value_text, thing).found, thing)

    def test_texts_are_no_values(self):
        for thing in ("none", "7", "2:13", "", "a", "thing"):
            self.assertIs(refusal(self, NoValue, value_text, thing).found, thing)

    def test_a_refusal_holds_the_very_thing_not_a_copy(self):
        thing = [[1], {"a": [2]}]
        found = refusal(self, NoValue, value_text, thing).found
        thing[0].append(3)
        self.assertIs(found, thing)
        self.assertEqual(found, [[1, 3], {"a": [2]}])


class ValueOf(unittest.TestCase):
    def test_values_of_texts(self):
        for value, text in VALUES:
            self.assertEqual(value_of(text), value)
            self.assertIs(type(value_of(text)), type(value))

    def test_none_is_told(self):
        self.assertIsNone(value_of("none"))

    def test_numbers_in_pairs_are_whole_numbers(self):
        for text in ("0:0", "1:1", "2:13"):
            self.assertEqual([type(number) for number in value_of(text)], [int, int])

    def test_texts_that_are_refused(self):
        for text in NO_TEXTS:
            found = refusal(self, NoValue, value_of, text).found
            self.assertIs(found, text)

    def test_each_sign_beside_and_between_figures(self):
        for sign in SIGNS:
            if sign not in "0123456789":
                for text in (sign, "7" + sign, "7" + sign + sign + "7", "1:2" + sign, "1" + sign + ":2", sign * 4):
                    refusal(self, NoValue, value_of, text)
                if sign != ":":
                    refusal(self, NoValue, value_of, "1" + sign + "2")
                    refusal(self, NoValue, value_of, "1:" + sign + "2")
                    refusal(self, NoValue, value_of, sign + "1:2")
                if sign != "-":
                    refusal(self, NoValue, value_of, sign + "7")

    def test_forty_figures_and_forty_one(self):
        for figures in ("9" * 40, "1" + "0" * 39, "1234567890" * 4):
            number = int(figures)
            self.assertEqual(value_of(figures), number)
            self.assertEqual(value_of("-" + figures), -number)
            self.assertEqual(value_of(figures + ":0"), (number, 0))
            self.assertEqual(value_of("0:" + figures), (0, number))
            self.assertEqual(value_of(figures + ":" + figures), (number, number))
            for more in (figures + "0", figures + "1"):
                for text in (more, "-" + more, more + ":0", "0:" + more, more + ":" + figures, figures + ":" + more):
                    self.assertIs(refusal(self, NoValue, value_of, text).found, text)

    def test_figures_that_begin_with_nought(self):
        for figures in ("0" * 39 + "1", "0" * 40, "0" * 41):
            for text in (figures, "-" + figures, figures + ":1", "1:" + figures):
                refusal(self, NoValue, value_of, text)

    def test_texts_of_four_thousand_signs(self):
        for text in (
            "1" * 4000, "0" * 4000, "-" + "1" * 3999, "-" * 4000, "1:" * 2000, ":" * 4000, " " * 4000, "none" * 1000,
            "1" * 1999 + ":" + "2" * 2000, "0:" + "2" * 3998, "\n" * 4000, "7" + " " * 3999, " " * 3999 + "7",
            "0" * 3999 + "7", "a" * 4000,
        ):
            self.assertEqual(len(text), 4000)
            self.assertIs(refusal(self, NoValue, value_of, text).found, text)

    def test_what_is_no_text_is_refused(self):
        for thing in any_things():
            if not isinstance(thing, str):
                self.assertIs(refusal(self, NoValue, value_of, thing).found, thing)
        for thing in (["7"], ("none",), {"7": 7}, ["none"], ("2", ":", "13"), ["2:13"]):
            self.assertIs(refusal(self, NoValue, value_of, thing).found, thing)


class ThereAndBack(unittest.TestCase):
    def test_a_value_is_told_again_by_its_text(self):
        numbers = [0, 1, 9, 10, 99, 100, LONG, 10 ** 40 - 1, 10 ** 39]
        values = [None] + numbers + [-number for number in numbers]
        values += [(first, second) for first in numbers for second in numbers]
        for value in values:
            again = value_of(value_text(value))
            self.assertEqual(again, value)
            self.assertIs(type(again), type(value))

    def test_values_have_different_texts(self):
        numbers = range(0, 25)
        values = [None] + list(range(-25, 25)) + [(first, second) for first in numbers for second in numbers]
        self.assertEqual(len(set([value_text(value) for value in values])), len(values))

    def test_short_texts_are_just_those_of_values(self):
        signs = "019-:+ n"
        texts = [""]
        for length in range(4):
            texts += [text + sign for text in texts if len(text) == length for sign in signs]
        for text in texts:
            try:
                value = value_of(text)
            except NoValue:
                continue
            self.assertEqual(value_text(value), text)
        told = [text for text in texts if self.is_told(text)]
        numbers = [number for number in range(-999, 10000) if set(str(number)) <= set("019-")]
        counts = [text for text in map(str, numbers) if not text.startswith("-") and len(text) <= 2]
        pairs = [a + ":" + b for a in counts for b in counts if len(a) + len(b) <= 3]
        self.assertEqual(sorted(told), sorted([str(number) for number in numbers] + pairs))

    def is_told(self, text):
        try:
            value_of(text)
        except NoValue:
            return False
        return True


if __name__ == "__main__":
    unittest.main()
