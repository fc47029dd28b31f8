"""The calls stay quick at the limits: 40 persons, plain or not; 8 stands; 60 steps."""

import time
import unittest

from kincalls.families import couples, is_family, is_plain, rows
from kincalls.speeches import called, is_speech, who, word_of
from kincalls.steps import chain, is_straight, turned
from tests import samples

# Far more than any of these calls needs, far less than a slow way would take.
SECONDS = 2


def name_of(number):
    """A name for each number below 676."""
    return samples.LETTERS[number // 26] + samples.LETTERS[number % 26]


def husbands_and_wives():
    """40 persons without a ring: each but the first one has a son and a daughter by the one ahead."""
    persons = [("aa", "he", None, None)]
    while len(persons) < 40:
        ahead = persons[-3] if len(persons) > 1 else persons[-1]
        sex = "she" if ahead[1] == "he" else "he"
        at = len(persons)
        pair = (ahead[0], name_of(at)) if sex == "she" else (name_of(at), ahead[0])
        persons.append((name_of(at), sex, None, None))
        persons.append((name_of(at + 1), "he") + pair)
        persons.append((name_of(at + 2), "she") + pair)
    return tuple(persons)


def brothers_and_sisters():
    """40 persons with a ring in each generation: a pair, and the pair that they have."""
    persons = [("aa", "he", None, None), ("ab", "she", None, None)]
    while len(persons) < 40:
        at = len(persons)
        parents = (persons[-2][0], persons[-1][0])
        persons.append((name_of(at), "he") + parents)
        persons.append((name_of(at + 1), "she") + parents)
    return tuple(persons)


def ladder():
    """40 persons in three lots a generation, each with parents of the lots beside it."""
    persons = []
    for at in range(40):
        sex = "he" if at % 2 else "she"
        older = persons[max(0, at - 7):max(0, at - 3)]
        fathers = [person[0] for person in older if person[1] == "he"]
        mothers = [person[0] for person in older if person[1] == "she"]
        father = fathers[at % len(fathers)] if fathers else None
        mother = mothers[at % len(mothers)] if mothers else None
        persons.append((name_of(at), sex, father, mother))
    return tuple(persons)


EIGHT = (0, 1, tuple(
    ("abcdefg" + "abcdefgh"[at], (at + 1) % 8, (3 * at + 2) % 8, (5 * at) % 8, (at + 6) % 8)
    for at in range(8)
))


class Quick(unittest.TestCase):
    def within(self, call, *things):
        """What the call tells, if it is quick."""
        start = time.perf_counter()
        told = call(*things)
        self.assertLess(time.perf_counter() - start, SECONDS, call.__name__)
        return told

    def test_40_persons_plain(self):
        family = husbands_and_wives()
        self.assertEqual(len(family), 40)
        self.assertIs(self.within(is_family, family), True)
        self.assertIs(self.within(is_plain, family), True)
        self.assertEqual(len(self.within(couples, family)), 13)
        last = family[-3][0]
        told = self.within(rows, family, "aa", last)
        self.assertEqual(len(told), 2 ** 13)
        self.assertEqual(told, sorted(set(told)))
        self.assertEqual({len(row) for row in told}, {26})
        self.assertGreater(len(self.within(called, family, EIGHT, "aa", last)), 0)
        self.within(who, family, EIGHT, "aa", "abcdefga")

    def test_40_persons_with_rings(self):
        for family in (brothers_and_sisters(), ladder()):
            self.assertEqual(len(family), 40)
            self.assertIs(self.within(is_family, family), True)
            self.assertIs(self.within(is_plain, family), False)
            self.within(couples, family)
            first, last = family[0][0], family[-1][0]
            self.assertGreater(len(self.within(called, family, EIGHT, first, last)), 0)
            self.assertGreater(len(self.within(called, family, EIGHT, last, first)), 0)
            self.within(who, family, EIGHT, last, "abcdefga")

    def test_40_children(self):
        family = (("aa", "he", None, None), ("ab", "she", None, None)) + tuple(
            (name_of(at), "he", "aa", "ab") for at in range(2, 40)
        )
        self.assertEqual(self.within(rows, family, "aa", "ab"), ["sm"])
        self.assertEqual(self.within(rows, family, "ac", "bn"), ["fs", "ms"])

    def test_8_stands_and_60_steps(self):
        self.assertIs(self.within(is_speech, EIGHT), True)
        for row in ("f" * 60, "fsm" * 20, "s" * 60, "sfdm" * 15):
            self.within(is_straight, "he", row)
            self.within(turned, "she", row)
            self.within(word_of, EIGHT, "he", row)
        family, *_ = self.within(chain, "he", "fsm" * 20)
        self.assertEqual(len(family), 61)

    def test_what_is_far_too_long_is_refused_at_once(self):
        self.assertIs(self.within(is_family, (("aa", "he", None, None),) * 1000000), False)
        self.assertIs(self.within(is_family, (("a" * 10000000, "he", None, None),)), False)
        self.assertIs(self.within(is_speech, (0, 0, EIGHT[2] * 1000000)), False)
        self.assertIs(self.within(is_speech, (0, 0, (("a" * 10000000, 0, 0, 0, 0),))), False)
