"""Point 1: nothing handed in is changed or kept, and what is told is new each time."""

import copy
import unittest

from kincalls import errors
from kincalls.families import couples, is_family, is_plain, rows
from kincalls.houses import House
from kincalls.pairs import answering, answers, unlike
from kincalls.speeches import called, is_speech, who, word_of
from kincalls.steps import chain, is_straight, turned
from kincalls.sure import is_paper, paper, unsure
from kincalls.texts import family_text, read_family, read_speech, speech_text
from tests.samples import HOUSE, RING, SIDED, SPEECH, any_things
from tests.speech_samples import FAR_OFF, GENERATIONS, LATE, SEXED


def twin_house(speech):
    """What a house tells that was made with this speech, and its twin."""
    house = House(speech)
    house.born("al", "he")
    twin = house.twin()
    twin.speak(speech)
    return [(told.family(), told.speech(), len(told), told.called("al", "al")) for told in (house, twin)]


def house_of_two(name, sex, parent):
    """What a house tells in which one was born and then a parent found."""
    house = House(SPEECH)
    house.born("pa", "he")
    house.born(name, sex)
    house.found(name, parent)
    return [house.family(), house.called(name, parent), house.who(parent, "kid")]


CALLS = (
    (unsure, (FAR_OFF,)),
    (unsure, (LATE,)),
    (paper, (SEXED,)),
    (is_paper, (SEXED, paper(SEXED))),
    (unlike, (GENERATIONS, SEXED)),
    (answers, (SEXED,)),
    (answering, (SEXED, "mum", "son")),
    (twin_house, (SEXED,)),
    (house_of_two, ("al", "he", "pa")),
    (speech_text, (SEXED,)),
    (family_text, (RING,)),
    (read_speech, (speech_text(SEXED),)),
    (read_family, (family_text(RING),)),
    (is_family, (HOUSE,)),
    (is_plain, (HOUSE,)),
    (couples, (RING,)),
    (rows, (HOUSE, "eve", "ann")),
    (is_straight, ("he", "fsm")),
    (chain, ("she", "fsmd")),
    (turned, ("she", "fsmd")),
    (is_speech, (SIDED,)),
    (word_of, (SIDED, "she", "fsmd")),
    (called, (RING, SIDED, "pa", "cyd")),
    (who, (RING, SIDED, "pa", "peer")),
)


def changeable_things():
    """Things that could be changed by one to whom they are handed in."""
    return [
        [], ["pa", ["he", [None]]], {}, {"pa": ["he", {1: [2]}]}, {1, 2},
        list(HOUSE), [list(person) for person in HOUSE], (list(HOUSE[0]),),
        (0, 0, [["a", 0, 0, 0, 0]]), (0, 0, (["a", 0, 0, 0, 0],)), ([0], {0: 0}, (("a", 0, 0, 0, []),)),
    ]


class Kept(unittest.TestCase):
    def answer(self, call, things):
        try:
            return call(*things)
        except errors.KinError as refusal:
            return refusal.__class__

    def test_nothing_handed_in_is_changed(self):
        for call, right in CALLS:
            for at in range(len(right)):
                for wrong in changeable_things():
                    things = right[:at] + (wrong,) + right[at + 1:]
                    before = copy.deepcopy(things)
                    first = self.answer(call, things)
                    self.assertEqual(things, before)
                    self.assertEqual(self.answer(call, things), first)

    def test_what_is_refused_changes_nothing(self):
        expected = [call(*right) for call, right in CALLS]
        for call, right in CALLS:
            for wrong in any_things():
                self.answer(call, (wrong,) + right[1:])
                self.answer(call, right[:-1] + (wrong,))
        self.assertEqual([call(*right) for call, right in CALLS], expected)

    def test_equal_things_give_equal_answers(self):
        for call, right in CALLS:
            self.assertEqual(call(*right), call(*copy.deepcopy(right)))

    def test_lists_that_are_told_are_new(self):
        for call, right in CALLS:
            told = call(*right)
            expected = copy.deepcopy(told)
            # A paper is a tuple of two lists.
            for part in told if isinstance(told, tuple) else (told,):
                if isinstance(part, list):
                    part.append("more")
            self.assertEqual(call(*right), expected)
