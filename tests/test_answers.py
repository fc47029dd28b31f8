"""Point 11: which words answer which."""

import itertools
import unittest

from kincalls.errors import NoSpeech, NotSure, NoWord, TooMany
from kincalls.pairs import answering, answers
from tests import samples, slow, speech_samples
from tests.speech_samples import ENDS_3000, ENDS_3001, ENDS_MANY, FAR_OFF, GENERATIONS, LATE, SEXED, STRAIGHT_ONLY
from tests.test_speeches import NO_WORDS, speech_of


class Answers(unittest.TestCase):
    def shows(self, speech, word, answer):
        """How many steps the row has of the chain that is told, if it shows what it should."""
        told = answering(speech, word, answer)
        self.assertIs(type(told), tuple)
        family, one, other = told
        row = slow.chain_row(family, one, other)
        self.assertIsNotNone(row, told)
        self.assertEqual(slow.called(family, speech, one, other), [word])
        self.assertEqual(slow.called(family, speech, other, one), [answer])
        return len(row)

    def agree(self, speech, expected):
        """Hold what is told against pairs and the steps that they take."""
        self.assertEqual(answers(speech), sorted(expected))
        words = sorted({stand[0] for stand in speech[2]} | {"nobody", ""})
        for pair in itertools.product(words, words):
            if pair in expected:
                self.assertEqual(self.shows(speech, *pair), expected[pair])
            else:
                self.assertIsNone(answering(speech, *pair))

    def test_generations(self):
        self.agree(GENERATIONS, {
            ("child", "parent"): 1, ("parent", "child"): 1, ("same", "same"): 2,
            ("gchild", "gparent"): 2, ("gparent", "gchild"): 2,
        })

    def test_sexes(self):
        self.assertEqual(answers(SEXED), [
            ("", ""), ("bro", "bro"), ("bro", "sis"), ("dad", "girl"), ("dad", "son"),
            ("girl", "dad"), ("girl", "mum"), ("mum", "girl"), ("mum", "son"),
            ("sis", "bro"), ("sis", "sis"), ("son", "dad"), ("son", "mum"),
        ])
        self.assertEqual(self.shows(SEXED, "mum", "son"), 1)
        self.assertEqual(self.shows(SEXED, "bro", "sis"), 2)
        for pair in (("dad", "dad"), ("dad", "mum"), ("dad", "bro"), ("dad", ""), ("", "mum")):
            self.assertIsNone(answering(SEXED, *pair))

    def test_a_word_that_answers_itself(self):
        self.agree(speech_of(1), {("a", "a"): 1})
        self.agree(speech_of(8), {("a", "a"): 1})

    def test_silence(self):
        self.agree((0, 0, (("", 0, 0, 0, 0),)), {("", ""): 1})
        # Up silence, down a word, and beside one another that of the last step.
        speech = (0, 0, (("", 0, 0, 1, 1), ("kid", 0, 0, 1, 1)))
        self.agree(speech, {("", "kid"): 1, ("kid", ""): 1, ("kid", "kid"): 2, ("", ""): 2})

    def test_the_first_stand_is_asked_only_where_it_is_come_to(self):
        # With one's own word nobody else is called.
        self.assertEqual(answers(STRAIGHT_ONLY), [("child", "kin"), ("kin", "child"), ("kin", "kin")])
        self.assertIsNone(answering(STRAIGHT_ONLY, "he", "she"))
        self.assertIsNone(answering(STRAIGHT_ONLY, "he", "he"))
        self.assertIsNone(answering(STRAIGHT_ONLY, "never", "never"))
        self.assertIsNone(answering(STRAIGHT_ONLY, "child", "never"))

    def test_word_and_answer_are_not_taken_for_one_another(self):
        speech = (0, 0, (("me", 1, 1, 2, 2), ("up", 1, 1, 3, 3), ("down", 3, 3, 2, 2), ("far", 3, 3, 3, 3)))
        told = answers(speech)
        for word, answer in (("up", "down"), ("down", "up"), ("far", "far")):
            self.assertIn((word, answer), told)
            self.assertGreater(self.shows(speech, word, answer), 0)
        # All above are called alike, all below likewise, and nobody is both to another one.
        self.assertNotIn(("up", "up"), told)
        self.assertNotIn(("up", "far"), told)

    def test_many_persons(self):
        speech = (3, 1, tuple(
            (word, f, f, s, s) for word, f, s in (
                ("a", 1, 4), ("b", 3, 6), ("c", 3, 5), ("d", 3, 3),
                ("e", 4, 7), ("f", 0, 3), ("g", 2, 1), ("h", 5, 2),
            )
        ))
        expected = slow.answers(speech)
        self.assertEqual(max(expected.values()), 30)
        self.agree(speech, expected)

    def test_drawn_ones(self):
        rand = samples.drawn(61)
        gone = 0
        while gone < 60:
            speech = speech_samples.drawn_sure(rand, 5)
            if len(slow.ends(speech)) <= 800:
                self.agree(speech, slow.answers(speech))
                gone += 1

    def test_all_rows_of_a_few_steps(self):
        straight = {sex: slow.straight_rows(sex, 4)[1:] for sex in ("he", "she")}
        rand = samples.drawn(62)
        for _ in range(40):
            speech = speech_samples.drawn_sure(rand, 4)
            if len(slow.ends(speech)) > 800:
                continue
            told = answers(speech)
            for sex, rows in straight.items():
                for row in rows:
                    back = slow.word_of(speech, slow.end_of(sex, row), slow.turned(sex, row))
                    self.assertIn((slow.word_of(speech, sex, row), back), told)

    def test_what_is_told_is_a_new_list_of_pairs(self):
        told = answers(GENERATIONS)
        self.assertIs(type(told), list)
        self.assertEqual({type(pair) for pair in told}, {tuple})
        expected = list(told)
        told.append("more")
        self.assertEqual(answers(GENERATIONS), expected)
        self.assertEqual(answers((0, 0, tuple(map(tuple, map(list, GENERATIONS[2]))))), expected)


class Limit(unittest.TestCase):
    def test_3000_ends(self):
        for speech in ENDS_3000:
            self.assertEqual(len(slow.ends(speech)), 3000)
            expected = slow.answers(speech)
            self.assertEqual(answers(speech), sorted(expected))
            for pair, steps in expected.items():
                family, *_ = answering(speech, *pair)
                self.assertEqual(len(family), steps + 1)
            self.assertIsNone(answering(speech, "nobody", "a"))

    def test_one_more(self):
        for speech in ENDS_3001:
            ends = slow.ends(speech)
            self.assertEqual(len(ends), 3001)
            with self.assertRaises(TooMany):
                answers(speech)
            with self.assertRaises(TooMany):
                answering(speech, "a", "a")

    def test_the_ends_of_the_empty_rows_count(self):
        # Without them there would be 2999 and 3000.
        for speech, more in zip(ENDS_3001, (2, 1)):
            come_to = set()
            for end, (sex, row) in slow.ends(speech).items():
                for step in "fmsd":
                    if slow.is_straight(sex, row + step):
                        longer = row + step
                        stand = slow.stand_behind(speech, speech[0 if sex == "he" else 1], longer)
                        come_to.add((
                            slow.end_of(sex, longer), slow.way_of(sex, longer), stand,
                            slow.leading(speech, sex, longer),
                        ))
            self.assertEqual(len(come_to), 3001 - more)

    def test_many_more(self):
        for call in (lambda: answers(ENDS_MANY), lambda: answering(ENDS_MANY, "a", "a")):
            with self.assertRaises(TooMany):
                call()


class Refusals(unittest.TestCase):
    def refuses(self, refusal, speech, *words):
        with self.assertRaises(refusal):
            answering(speech, *words)
        if words == ("a", "a"):
            with self.assertRaises(refusal):
                answers(speech)

    def test_no_speech_comes_first(self):
        for wrong in samples.any_things() + [(), (8, 0, SEXED[2]), (0, True, SEXED[2]), speech_of(9)]:
            self.refuses(NoSpeech, wrong, "a", "a")
            self.refuses(NoSpeech, wrong, None, "A")

    def test_then_not_sure(self):
        # With so many ends too, and whatever the words are.
        he, she, stands = ENDS_MANY
        many = (he, she, tuple((word,) + stands[at][1:] for at, word in enumerate("abcdefgh")))
        rand = samples.drawn(63)
        for wrong in [FAR_OFF, LATE, many] + [speech_samples.drawn_not_sure(rand) for _ in range(30)]:
            self.refuses(NotSure, wrong, "a", "a")
            self.refuses(NotSure, wrong, None, "A")

    def test_then_too_many(self):
        for wrong in ENDS_3001 + (ENDS_MANY,):
            self.refuses(TooMany, wrong, "a", "a")
            self.refuses(TooMany, wrong, None, "A")

    def test_then_no_word(self):
        for wrong in samples.any_things() + NO_WORDS:
            for words in ((wrong, "a"), ("a", wrong), (wrong, wrong), (wrong, "parent")):
                self.refuses(NoWord, GENERATIONS, *words)

    def test_words_of_8_letters(self):
        speech = (0, 0, (("abcdefgh", 0, 0, 0, 0),))
        self.assertEqual(answers(speech), [("abcdefgh", "abcdefgh")])
        self.assertIsNotNone(answering(speech, "abcdefgh", "abcdefgh"))
        self.assertIsNone(answering(speech, "abcdefg", "abcdefgh"))
        self.refuses(NoWord, speech, "abcdefghi", "abcdefgh")


if __name__ == "__main__":
    unittest.main()
