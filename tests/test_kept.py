"""Point 1: nothing handed in is changed or kept, and what is told is new each time."""

import copy
import unittest

from kincalls import errors
from kincalls.families import couples, is_family, is_plain, rows
from kincalls.speeches import called, is_speech, who, word_of
from kincalls.steps import chain, is_straight, turned
from tests.samples import HOUSE, RING, SIDED, any_things

CALLS = (
    (is_family, (HOUSE,)),
    (is_plain, (HOUSE,)),
    (couples, (RING,)),
    (rows, (HOUSE, "eve", "ann")),
    (is_straight, ("he", "fsm")),
    (chain, ("she", "fsmd")),
    (turned, ("she", "fsmd")),
    (is_speech, (SIDED,)),
    (word_of, (SIDED, "she", "fsmd")),
    (called, (RING, SIDED, "pa", "cyd")),
    (who, (RING, SIDED, "pa", "peer")),
)


def changeable_things():
    """Things that could be changed by one to whom they are handed in."""
    return [
        [], ["pa", ["he", [None]]], {}, {"pa": ["he", {1: [2]}]}, {1, 2},
        list(HOUSE), [list(person) for person in HOUSE], (list(HOUSE[0]),),
        (0, 0, [["a", 0, 0, 0, 0]]), (0, 0, (["a", 0, 0, 0, 0],)), ([0], {0: 0}, (("a", 0, 0, 0, []),)),
    ]


class Kept(unittest.TestCase):
    def answer(self, call, things):
        try:
            return call(*things)
        except errors.KinError as refusal:
            return refusal.__class__

    def test_nothing_handed_in_is_changed(self):
        for call, right in CALLS:
            for at in range(len(right)):
                for wrong in changeable_things():
                    things = right[:at] + (wrong,) + right[at + 1:]
                    before = copy.deepcopy(things)
                    first = self.answer(call, things)
                    self.assertEqual(things, before)
                    self.assertEqual(self.answer(call, things), first)

    def test_what_is_refused_changes_nothing(self):
        expected = [call(*right) for call, right in CALLS]
        for call, right in CALLS:
            for wrong in any_things():
                self.answer(call, (wrong,) + right[1:])
                self.answer(call, right[:-1] + (wrong,))
        self.assertEqual([call(*right) for call, right in CALLS], expected)

    def test_equal_things_give_equal_answers(self):
        for call, right in CALLS:
            self.assertEqual(call(*right), call(*copy.deepcopy(right)))

    def test_lists_that_are_told_are_new(self):
        for call, right in CALLS:
            told = call(*right)
            if isinstance(told, list):
                expected = list(told)
                told.append("more")
                self.assertEqual(call(*right), expected)
