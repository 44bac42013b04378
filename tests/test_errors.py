"""Point [5], and framerooms/errors.py in the interface."""

import unittest

from framerooms import errors
from framerooms.errors import Full, Gone, NoFrame, RoomError
from tests.helper import any_things

FIELDS = {
    "NoNumber": ["found"],
    "NoName": ["found"],
    "NoValue": ["found"],
    "NoFrame": ["found"],
    "Gone": ["found", "by"],
    "Ground": [],
    "TooMany": ["many"],
    "Full": ["need", "spare"],
    "NoWay": ["found"],
    "NoCell": ["found"],
    "NoHands": ["found"],
    "Kept": ["ways"],
    "NoDeed": ["found"],
    "TooDeep": ["depth"],
    "TooWide": ["many"],
    "TooLong": ["many"],
    "Twice": ["label"],
    "NoLabel": ["label"],
    "NoChoices": ["found"],
    "NoMaking": ["found"],
    "NotStraight": ["number"],
    "NoText": ["line"],
    "NoManner": ["found"],
    "NoNames": ["found"],
    "NoLine": ["found"],
    "NoHouse": [],
    "NoProgram": [],
}


def kinds():
    return {name: getattr(errors, name) for name in FIELDS}


class Classes(unittest.TestCase):
    def test_room_error_stands_under_value_error(self):
        self.assertEqual(RoomError.__bases__, (ValueError,))

    def test_each_stands_straight_under_room_error(self):
        for name, kind in kinds().items():
            with self.subTest(name):
                self.assertEqual(kind.__bases__, (RoomError,))
                self.assertTrue(issubclass(kind, ValueError))

    def test_each_is_a_class_of_its_own(self):
        for name, kind in kinds().items():
            above = [other for other, base in kinds().items() if issubclass(kind, base)]
            self.assertEqual(above, [name])
            self.assertEqual(kind.__name__, name)

    def test_each_is_taken_by_its_own_name_and_by_room_error(self):
        for name, kind in kinds().items():
            for taken in (kind, RoomError, ValueError):
                with self.subTest(name):
                    with self.assertRaises(taken) as caught:
                        raise kind(*FIELDS[name])
                    self.assertIs(type(caught.exception), kind)


class Fields(unittest.TestCase):
    def test_fields_are_the_very_things(self):
        for name, kind in kinds().items():
            for thing in any_things():
                fields = FIELDS[name]
                # One thing of the row is the one at hand, all others are new lists.
                for place in range(len(fields)):
                    things = [[k] for k in range(len(fields))]
                    things[place] = thing
                    refusal = kind(*things)
                    for field, held in zip(fields, things):
                        self.assertIs(getattr(refusal, field), held, (name, field))

    def test_fields_stay_when_raised(self):
        for name, kind in kinds().items():
            things = [[field] for field in FIELDS[name]]
            with self.assertRaises(kind) as caught:
                raise kind(*things)
            for field, held in zip(FIELDS[name], things):
                self.assertIs(getattr(caught.exception, field), held)

    def test_what_is_held_is_not_changed(self):
        for name, kind in kinds().items():
            for field in FIELDS[name]:
                things = [{"a": [field, (1, [2])]} for each in FIELDS[name]]
                kind(*things)
                self.assertEqual(things, [{"a": [field, (1, [2])]} for each in FIELDS[name]])

    def test_what_is_done_to_a_held_thing_is_seen(self):
        for name, kind in kinds().items():
            things = [[] for field in FIELDS[name]]
            refusal = kind(*things)
            for field, held in zip(FIELDS[name], things):
                held.append(field)
                self.assertEqual(getattr(refusal, field), [field])

    def test_refusals_have_nothing_in_common(self):
        for name, kind in kinds().items():
            first = kind(*[("first", field) for field in FIELDS[name]])
            kind(*[("second", field) for field in FIELDS[name]])
            for field in FIELDS[name]:
                self.assertEqual(getattr(first, field), ("first", field))

    def test_two_fields_stand_in_their_order(self):
        gone = Gone((2, 13), 1)
        self.assertEqual((gone.found, gone.by), ((2, 13), 1))
        full = Full(6, 0)
        self.assertEqual((full.need, full.spare), (6, 0))

    def test_a_refusal_may_hold_a_refusal(self):
        inner = NoFrame([1])
        self.assertIs(NoFrame(inner).found, inner)


class Texts(unittest.TestCase):
    def test_room_error_tells_its_text(self):
        for text in ("no room", "", "a", "none", "{found}\n\\ 'a' \"b\"", " ", "a" * 4000):
            self.assertEqual(str(RoomError(text)), text)

    def test_each_has_words_whatever_it_holds(self):
        for name, kind in kinds().items():
            for thing in any_things():
                self.assertIsInstance(str(kind(*[thing for field in FIELDS[name]])), str)


if __name__ == "__main__":
    unittest.main()
