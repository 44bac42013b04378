"""Tests of framerooms.steps: what each step has of its own, and nothing of what it hasn't."""

import unittest

from framerooms.progtext import read_program
from framerooms.steps import Step, path_of


def steps(text, choices=()):
    """All steps, each with its number, choice, frames that are ended, frame around another one, and deed's word."""
    return [
        (step.number, step.choice, step.ended, step.parent, step.deed and step.deed[0])
        for step in path_of(read_program(text), choices)
    ]


class TestSteps(unittest.TestCase):
    def test_a_step_by_its_number_alone(self):
        self.assertEqual(
            vars(Step(4)), {"number": 4, "choice": None, "ended": (), "parent": None, "deed": None, "places": None}
        )

    def test_frame(self):
        self.assertEqual(steps("frame f\nset x 1\nend\nset y 2"), [
            (0, None, (), 0, None), (1, None, (), None, "set"), (0, None, (1,), None, None), (2, None, (), None, "set"),
        ])

    def test_turns(self):
        self.assertEqual(steps("turns f 2 3\nset x 1\nend"), [
            (0, None, (), 0, None), (1, None, (), None, "set"),
            (0, None, (), 0, None), (1, None, (), None, "set"),
            (0, None, (1,), 0, None), (1, None, (), None, "set"),
            (0, None, (3, 2), None, None),
        ])

    def test_no_turn_ends_no_frame(self):
        self.assertEqual(steps("turns f 2 0\nset x 1\nend"), [(0, None, (), None, None)])

    def test_either(self):
        text = "either\nset x 1\nor\nset x 2\nset x 3\nend"
        self.assertEqual(steps(text, (True,)), [(0, True, (), None, None), (1, None, (), None, "set")])
        self.assertEqual(
            steps(text), [(0, False, (), None, None), (2, None, (), None, "set"), (3, None, (), None, "set")]
        )
