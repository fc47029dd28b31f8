"""Point 10: which sure speeches are alike, and what is told where they are not."""

import unittest

from kincalls.errors import NoSpeech, NotSure
from kincalls.pairs import unlike
from tests import samples, slow, speech_samples
from tests.speech_samples import FAR_OFF, GENERATIONS, LATE, SEXED, STRAIGHT_ONLY, SURE
from tests.test_speeches import speech_of

STEPS = 5
STRAIGHT = {sex: slow.straight_rows(sex, STEPS)[1:] for sex in ("he", "she")}


def least_unlike(speech, other):
    """The steps of a shortest row with unlike words, up to 5; None of none."""
    shown = [
        len(row) for sex, rows in STRAIGHT.items() for row in rows
        if slow.word_of(speech, sex, row) != slow.word_of(other, sex, row)
    ]
    return min(shown, default=None)


def with_word(speech, at, word):
    """The speech with another word for one stand."""
    he, she, stands = speech
    return (he, she, stands[:at] + ((word,) + stands[at][1:],) + stands[at + 1:])


class Unlike(unittest.TestCase):
    def shows(self, speech, other):
        """How many steps the row has of the chain that is told, if it shows what it should."""
        told = unlike(speech, other)
        self.assertIs(type(told), tuple)
        family, one, beyond = told
        row = slow.chain_row(family, one, beyond)
        self.assertIsNotNone(row, told)
        self.assertNotEqual(slow.called(family, speech, one, beyond), slow.called(family, other, one, beyond))
        return len(row)

    def test_a_speech_and_itself(self):
        for speech in SURE:
            self.assertIsNone(unlike(speech, speech))
            self.assertIsNone(unlike(speech, (speech[0], speech[1], tuple(speech[2]))))

    def test_stands_numbered_otherwise(self):
        rand = samples.drawn(51)
        for _ in range(100):
            speech = speech_samples.drawn_sure(rand)
            other = speech_samples.numbered_otherwise(rand, speech)
            self.assertIsNone(unlike(speech, other))
            self.assertIsNone(unlike(other, speech))

    def test_more_stands_that_are_never_come_to(self):
        he, she, stands = GENERATIONS
        more = stands + (("odd", 0, 1, 2, 3), ("", 5, 5, 5, 5))
        self.assertIsNone(unlike(GENERATIONS, (he, she, more)))
        # Come to by rows that are not straight alone.
        self.assertIsNone(unlike(STRAIGHT_ONLY, with_word(STRAIGHT_ONLY, 4, "kin")))

    def test_stands_that_are_one_twice(self):
        one = (0, 0, (("a", 0, 0, 0, 0),))
        for many in range(1, 9):
            self.assertIsNone(unlike(one, speech_of(many)))
            self.assertIsNone(unlike(speech_of(many), one))
        self.assertIsNone(unlike(one, (2, 1, (("a", 1, 2, 0, 0), ("a", 0, 0, 2, 1), ("a", 1, 1, 1, 0)))))

    def test_what_one_calls_oneself_is_not_asked(self):
        # The first stands are never come to again.
        self.assertIsNone(unlike(STRAIGHT_ONLY, with_word(STRAIGHT_ONLY, 0, "")))
        self.assertIsNone(unlike(STRAIGHT_ONLY, with_word(STRAIGHT_ONLY, 1, "he")))
        # Here they are, by two steps.
        self.assertEqual(self.shows(GENERATIONS, with_word(GENERATIONS, 0, "")), 2)

    def test_one_step(self):
        self.assertEqual(self.shows(GENERATIONS, SEXED), 1)
        self.assertEqual(self.shows(GENERATIONS, speech_of(1)), 1)
        self.assertEqual(self.shows((0, 0, (("", 0, 0, 0, 0),)), speech_of(1)), 1)

    def test_unlike_for_one_sex_alone(self):
        for at, sex in ((2, "he"), (3, "she")):
            other = with_word(STRAIGHT_ONLY, at, "kid")
            if at == 2:
                other = with_word(other, 6, "kid")
            self.assertEqual(self.shows(STRAIGHT_ONLY, other), 1)
            family, one, _ = unlike(STRAIGHT_ONLY, other)
            self.assertIn((one, sex), [person[:2] for person in family])

    def test_behind_some_steps(self):
        # Up and up, the word for all of them is one, but for those of one generation.
        for many in range(1, 8):
            stands = tuple(
                ("odd" if at == many else "far", min(at + 1, 7), min(at + 1, 7), 0, 0)
                for at in range(8)
            )
            same = with_word((0, 0, stands), many, "far")
            self.assertEqual(self.shows((0, 0, stands), same), many)
            self.assertEqual(self.shows(speech_of(1), with_word(same, many, "a")), 1)

    def test_told_whichever_comes_first(self):
        rand = samples.drawn(52)
        for _ in range(60):
            speech, other = speech_samples.drawn_sure(rand), speech_samples.drawn_sure(rand)
            if unlike(speech, other) is None:
                self.assertIsNone(unlike(other, speech))
            else:
                self.assertEqual(self.shows(speech, other), self.shows(other, speech))

    def test_drawn_ones_that_are_nearly_alike(self):
        rand = samples.drawn(53)
        counted = {}
        for _ in range(150):
            speech = speech_samples.drawn_sure(rand)
            he, she, stands = speech_samples.numbered_otherwise(rand, speech)
            stands = [list(stand) for stand in stands]
            rand.choice(stands)[rand.randint(1, 4)] = rand.randrange(len(stands))
            other = (he, she, tuple(map(tuple, stands)))
            if not slow.is_sure(other):
                with self.assertRaises(NotSure):
                    unlike(speech, other)
                continue
            least = least_unlike(speech, other)
            counted[least] = counted.get(least, 0) + 1
            if least is not None:
                self.assertEqual(self.shows(speech, other), least)
            elif unlike(speech, other) is not None:
                self.assertGreater(self.shows(speech, other), STEPS)
        self.assertLessEqual({None, 1, 2, 3}, set(counted))

    def test_equal_speeches_are_told_alike(self):
        first = unlike(GENERATIONS, SEXED)
        copies = [(he, she, tuple(tuple(list(s)) for s in stands)) for he, she, stands in (GENERATIONS, SEXED)]
        self.assertEqual(unlike(*copies), first)


class Refusals(unittest.TestCase):
    def test_no_speech_of_either_comes_first(self):
        for wrong in samples.any_things() + [(), (5, 0, GENERATIONS[2]), (True, 0, GENERATIONS[2]), speech_of(9)]:
            for other in (GENERATIONS, FAR_OFF, LATE, wrong):
                for pair in ((wrong, other), (other, wrong)):
                    with self.assertRaises(NoSpeech):
                        unlike(*pair)

    def test_then_not_sure_of_either(self):
        rand = samples.drawn(54)
        for wrong in [FAR_OFF, LATE] + [speech_samples.drawn_not_sure(rand) for _ in range(30)]:
            for pair in ((wrong, GENERATIONS), (GENERATIONS, wrong), (wrong, wrong)):
                with self.assertRaises(NotSure):
                    unlike(*pair)


if __name__ == "__main__":
    unittest.main()
