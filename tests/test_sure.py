"""Point 8: which speeches are sure, and what is told where one is not."""

import unittest

from kincalls.errors import NoSpeech
from kincalls.sure import is_paper, paper, unsure
from tests import samples, slow, speech_samples
from tests.speech_samples import FAR_OFF, LATE, SURE
from tests.test_speeches import speech_of

# All that plain families of up to 5 persons can show.
FORKS = slow.forks(5)


def least_shown(speech):
    """The fewest persons, up to 5, of a family in which two rows have unlike words; None of none."""
    shown = [
        many for (sex, rows), many in FORKS.items()
        if len({slow.word_of(speech, sex, row) for row in rows}) > 1
    ]
    return min(shown, default=None)


class Unsure(unittest.TestCase):
    def shows(self, speech):
        """How many persons the family has that is told, if it shows what it should."""
        told = unsure(speech)
        self.assertIs(type(told), tuple)
        family, one, other, row, beside = told
        self.assertTrue(slow.is_family_of_any_size(family))
        self.assertFalse(slow.has_ring(family))
        self.assertNotEqual(one, other)
        between = slow.rows(family, one, other)
        self.assertIn(row, between)
        self.assertIn(beside, between)
        sex = {person[0]: person[1] for person in family}[one]
        words = [slow.word_of(speech, sex, text) for text in (row, beside)]
        self.assertNotEqual(*words)
        return len(family)

    def test_sure_ones(self):
        for speech in SURE + speech_samples.ENDS_3000 + speech_samples.ENDS_3001:
            self.assertIsNone(unsure(speech), speech)
        for many in range(1, 9):
            self.assertIsNone(unsure(speech_of(many)))

    def test_four_persons_by_each_choice(self):
        for sex, choices in (("he", ("fs ms", "fd md", "sm dm")), ("she", ("fs ms", "fd md", "sf df"))):
            for choice in choices:
                for odd in choice.split():
                    speech = speech_samples.speech_by_rows(odd, sex)
                    self.assertEqual(self.shows(speech), 4)
                    family, one, _, *rows = unsure(speech)
                    self.assertEqual(sorted(rows), sorted(choice.split()))
                    self.assertIn((one, sex), [person[:2] for person in family])

    def test_rows_without_another_one_beside_them(self):
        # Back to oneself, up and up, down and down: from each person that is one row.
        alone = {"he": "ff fm mf mm ss sd ds dd sf df", "she": "ff fm mf mm ss sd ds dd sm dm"}
        for sex, odds in alone.items():
            for odd in odds.split():
                self.assertIsNone(unsure(speech_samples.speech_by_rows(odd, sex)), odd)

    def test_silence_is_a_word(self):
        self.assertEqual(self.shows(speech_samples.speech_by_rows("fs", "he", "")), 4)

    def test_sure_just_because_rows_that_are_not_straight_are_never_taken(self):
        self.assertIsNone(unsure(speech_samples.STRAIGHT_ONLY))
        # Let her begin where he does, and what leads back to him leads on to others.
        self.assertEqual(self.shows((0, 0) + speech_samples.STRAIGHT_ONLY[2:]), 4)

    def test_sure_just_because_full_siblings_have_no_parents_to_come(self):
        self.assertIsNone(unsure(speech_samples.BEHIND_BOTH))
        # The same rows, but told apart by a step down.
        he, she, stands = speech_samples.BEHIND_BOTH
        down = tuple((word, 7, 7, f, f) if word == "sib" else (word, f, *rest) for word, f, *rest in stands)
        self.assertEqual(self.shows((he, she, down)), 5)

    def test_not_sure_some_steps_away_only(self):
        self.assertEqual(self.shows(FAR_OFF), 7)

    def test_told_apart_some_steps_behind_the_choice_only(self):
        self.assertEqual(self.shows(LATE), 6)

    def test_many_persons(self):
        speech = (7, 7, (
            ("a", 6, 5, 7, 7), ("a", 7, 7, 2, 2), ("a", 5, 0, 7, 7), ("a", 1, 5, 7, 1),
            ("a", 3, 5, 7, 7), ("a", 7, 7, 4, 4), ("b", 2, 0, 2, 2), ("a", 7, 7, 7, 1),
        ))
        self.assertEqual(self.shows(speech), 27)

    def test_of_drawn_ones_those_without_a_paper(self):
        rand = samples.drawn(21)
        for _ in range(400):
            speech = speech_samples.drawn_speech(rand)
            if slow.is_sure(speech):
                self.assertIsNone(unsure(speech), speech)
            else:
                self.shows(speech)

    def test_the_fewest_persons(self):
        rand = samples.drawn(22)
        counted = {}
        for at in range(600):
            draw = samples.speech_at_random if at % 3 == 0 else speech_samples.drawn_speech
            speech = draw(rand)
            least = least_shown(speech)
            counted[least] = counted.get(least, 0) + 1
            if least is not None:
                self.assertEqual(self.shows(speech), least)
            elif unsure(speech) is not None:
                self.assertGreater(self.shows(speech), 5)
        # All of these were among the drawn ones.
        self.assertEqual(set(counted), {None, 4, 5})

    def test_equal_speeches_are_told_alike(self):
        rand = samples.drawn(23)
        for _ in range(50):
            speech = speech_samples.drawn_speech(rand)
            equal = (speech[0], speech[1], tuple(tuple(list(stand)) for stand in speech[2]))
            self.assertEqual(unsure(equal), unsure(speech))


class Refusals(unittest.TestCase):
    def test_no_speech(self):
        right = speech_samples.GENERATIONS
        wrong = samples.any_things() + [
            (), (0, 0), right[:2], right + (0,), list(right), (0, 0, list(right[2])),
            (5, 0, right[2]), (0, -1, right[2]), (True, 0, right[2]), (0, False, right[2]),
            (0, 0, right[2][:4]), speech_of(9), (0, 0, (("a", 0, 0, 0, False),)),
            (0, 0, (["a", 0, 0, 0, 0],)), (0, 0, (("abcdefghi", 0, 0, 0, 0),)),
        ]
        for speech in wrong:
            for call, rest in ((unsure, ()), (paper, ()), (is_paper, (paper(right),)), (is_paper, (None,))):
                with self.assertRaises(NoSpeech):
                    call(speech, *rest)


if __name__ == "__main__":
    unittest.main()
