"""The calls stay quick at the limits: 40 persons, plain or not; 8 stands; 60 steps."""

import time
import unittest

from kincalls.errors import NotSure, NoText, TooMany
from kincalls.families import couples, is_family, is_plain, rows
from kincalls.houses import House
from kincalls.pairs import answering, answers, unlike
from kincalls.speeches import called, is_speech, who, word_of
from kincalls.steps import chain, is_straight, turned
from kincalls.sure import is_paper, paper, unsure
from kincalls.texts import family_text, read_family, read_speech, speech_text
from tests import samples, speech_samples

# Far more than any of these calls needs, far less than a slow way would take.
SECONDS = 2


def name_of(number):
    """A name for each number below 676."""
    return samples.LETTERS[number // 26] + samples.LETTERS[number % 26]


def husbands_and_wives():
    """40 persons without a ring: each but the first one has a son and a daughter by the one ahead."""
    persons = [("aa", "he", None, None)]
    while len(persons) < 40:
        ahead = persons[-3] if len(persons) > 1 else persons[-1]
        sex = "she" if ahead[1] == "he" else "he"
        at = len(persons)
        pair = (ahead[0], name_of(at)) if sex == "she" else (name_of(at), ahead[0])
        persons.append((name_of(at), sex, None, None))
        persons.append((name_of(at + 1), "he") + pair)
        persons.append((name_of(at + 2), "she") + pair)
    return tuple(persons)


def brothers_and_sisters():
    """40 persons with a ring in each generation: a pair, and the pair that they have."""
    persons = [("aa", "he", None, None), ("ab", "she", None, None)]
    while len(persons) < 40:
        at = len(persons)
        parents = (persons[-2][0], persons[-1][0])
        persons.append((name_of(at), "he") + parents)
        persons.append((name_of(at + 1), "she") + parents)
    return tuple(persons)


def ladder():
    """40 persons in three lots a generation, each with parents of the lots beside it."""
    persons = []
    for at in range(40):
        sex = "he" if at % 2 else "she"
        older = persons[max(0, at - 7):max(0, at - 3)]
        fathers = [person[0] for person in older if person[1] == "he"]
        mothers = [person[0] for person in older if person[1] == "she"]
        father = fathers[at % len(fathers)] if fathers else None
        mother = mothers[at % len(mothers)] if mothers else None
        persons.append((name_of(at), sex, father, mother))
    return tuple(persons)


EIGHT = (0, 1, tuple(
    ("abcdefg" + "abcdefgh"[at], (at + 1) % 8, (3 * at + 2) % 8, (5 * at) % 8, (at + 6) % 8)
    for at in range(8)
))


class Quick(unittest.TestCase):
    def within(self, call, *things):
        """What the call tells, if it is quick."""
        start = time.perf_counter()
        told = call(*things)
        self.assertLess(time.perf_counter() - start, SECONDS, call.__name__)
        return told

    def test_40_persons_plain(self):
        family = husbands_and_wives()
        self.assertEqual(len(family), 40)
        self.assertIs(self.within(is_family, family), True)
        self.assertIs(self.within(is_plain, family), True)
        self.assertEqual(len(self.within(couples, family)), 13)
        last = family[-3][0]
        told = self.within(rows, family, "aa", last)
        self.assertEqual(len(told), 2 ** 13)
        self.assertEqual(told, sorted(set(told)))
        self.assertEqual({len(row) for row in told}, {26})
        self.assertGreater(len(self.within(called, family, EIGHT, "aa", last)), 0)
        self.within(who, family, EIGHT, "aa", "abcdefga")

    def test_40_persons_with_rings(self):
        for family in (brothers_and_sisters(), ladder()):
            self.assertEqual(len(family), 40)
            self.assertIs(self.within(is_family, family), True)
            self.assertIs(self.within(is_plain, family), False)
            self.within(couples, family)
            first, last = family[0][0], family[-1][0]
            self.assertGreater(len(self.within(called, family, EIGHT, first, last)), 0)
            self.assertGreater(len(self.within(called, family, EIGHT, last, first)), 0)
            self.within(who, family, EIGHT, last, "abcdefga")

    def test_40_children(self):
        family = (("aa", "he", None, None), ("ab", "she", None, None)) + tuple(
            (name_of(at), "he", "aa", "ab") for at in range(2, 40)
        )
        self.assertEqual(self.within(rows, family, "aa", "ab"), ["sm"])
        self.assertEqual(self.within(rows, family, "ac", "bn"), ["fs", "ms"])

    def test_8_stands_and_60_steps(self):
        self.assertIs(self.within(is_speech, EIGHT), True)
        for row in ("f" * 60, "fsm" * 20, "s" * 60, "sfdm" * 15):
            self.within(is_straight, "he", row)
            self.within(turned, "she", row)
            self.within(word_of, EIGHT, "he", row)
        family, *_ = self.within(chain, "he", "fsm" * 20)
        self.assertEqual(len(family), 61)

    def test_what_is_far_too_long_is_refused_at_once(self):
        self.assertIs(self.within(is_family, (("aa", "he", None, None),) * 1000000), False)
        self.assertIs(self.within(is_family, (("a" * 10000000, "he", None, None),)), False)
        self.assertIs(self.within(is_speech, (0, 0, EIGHT[2] * 1000000)), False)
        self.assertIs(self.within(is_speech, (0, 0, (("a" * 10000000, 0, 0, 0, 0),))), False)

    def refused(self, refusal, call, *things):
        """See that the call refuses quickly."""
        start = time.perf_counter()
        with self.assertRaises(refusal):
            call(*things)
        self.assertLess(time.perf_counter() - start, SECONDS, call.__name__)

    def test_8_stands_sure_or_not(self):
        same = (0, 1, tuple(("a",) + stand[1:] for stand in EIGHT[2]))
        self.assertIsNotNone(self.within(unsure, EIGHT))
        self.assertIsNone(self.within(paper, EIGHT))
        self.assertIsNone(self.within(unsure, same))
        told = self.within(paper, same)
        self.assertEqual(len(told[0]), 48)
        self.assertIs(self.within(is_paper, same, told), True)
        self.assertIs(self.within(is_paper, EIGHT, told), False)
        self.assertIsNone(self.within(unlike, same, same))
        for pair in ((EIGHT, same), (same, EIGHT)):
            self.refused(NotSure, unlike, *pair)
        self.refused(NotSure, answers, EIGHT)
        self.refused(NotSure, answering, EIGHT, "a", "a")

    def test_drawn_speeches_of_8_stands(self):
        rand = samples.drawn(91)
        speeches = [samples.speech_at_random(rand, 8) for _ in range(20)]
        speeches += [(he, she, tuple(("a",) + stand[1:] for stand in stands)) for he, she, stands in speeches]
        start = time.perf_counter()
        for speech in speeches:
            told = paper(speech)
            if unsure(speech) is None:
                self.assertIs(is_paper(speech, told), True)
                unlike(speech, speeches[-1])
        self.assertLess(time.perf_counter() - start, 5 * SECONDS)

    def test_answers_at_the_limit_and_far_beyond(self):
        for speech in speech_samples.ENDS_3000:
            self.assertGreater(len(self.within(answers, speech)), 0)
            self.within(answering, speech, "a", "g")
        for speech in speech_samples.ENDS_3001 + (speech_samples.ENDS_MANY,):
            self.refused(TooMany, answers, speech)
            self.refused(TooMany, answering, speech, "a", "a")

    def test_things_that_are_no_papers(self):
        same = speech_samples.GENERATIONS
        places, pairs = paper(same)
        for thing in ((places * 100000, pairs), (places, pairs * 20000), ([None] * 10 ** 6, pairs),
                      (places, [("he",) * 10 ** 6]), (places + ["x" * 10 ** 7], pairs), [places] * 10 ** 6):
            self.assertIs(self.within(is_paper, same, thing), False)

    def test_a_house_of_40_persons_with_many_deeds(self):
        for family in (husbands_and_wives(), ladder()):
            start = time.perf_counter()
            house = House(EIGHT)
            for name, sex, *_ in family:
                house.born(name, sex)
            found = [(person[0], parent) for person in family for parent in person[2:] if parent]
            for _ in range(20):
                for name, parent in found:
                    house.found(name, parent)
                for _ in found:
                    house.undo()
            for at in range(5000):
                house.speak(EIGHT)
            for name, parent in found:
                house.found(name, parent)
            self.assertEqual(house.family(), family)
            self.assertLess(time.perf_counter() - start, SECONDS)
            twin = self.within(house.twin)
            self.within(house.plain)
            self.within(house.called, family[0][0], family[-1][0])
            self.within(house.who, family[-1][0], "abcdefga")
            start = time.perf_counter()
            for _ in range(5000 + len(found) + 40):
                twin.undo()
            self.assertLess(time.perf_counter() - start, SECONDS)
            self.assertEqual((len(twin), house.family()), (0, family))

    def test_texts_long_or_no_texts(self):
        text = self.within(speech_text, EIGHT)
        self.assertEqual(self.within(read_speech, text), EIGHT)
        family = ladder()
        text = self.within(family_text, family)
        self.assertEqual(self.within(read_family, text), family)
        for sign in ("a", "0", " ", "\n", "-", "a 0 0 0 0\n", "al he - -\n"):
            for call in (read_speech, read_family):
                self.refused(NoText, call, sign * 5000000)
                self.refused(NoText, call, "he 0 she 0\n" + sign * 5000000 + "\n")
                self.refused(NoText, call, "he 0 she " + sign * 5000000 + "\na 0 0 0 0\n")
