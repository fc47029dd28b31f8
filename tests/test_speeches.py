"""Points 6 and 7: what a speech is, the word of a row, and who calls whom what."""

import unittest

from kincalls.errors import NoFamily, NoName, NoRow, NoSex, NoSpeech, NoWord
from kincalls.families import rows
from kincalls.speeches import called, is_speech, who, word_of
from tests import samples, slow
from tests.samples import HOUSE, RING, SIDED, SPEECH
from tests.test_steps import NO_ROWS, NO_SEXES, SHORT

NO_WORDS = ["A", "ab ", "a-b", "\n", "abc\n", "abcdefghi", "a1", "\u00e4", b"", b"abc"]


def speech_of(many):
    """A speech of so many stands that are all alike."""
    return (0, 0, (("a", 0, 0, 0, 0),) * many)


class IsSpeech(unittest.TestCase):
    def yes(self, thing):
        self.assertIs(is_speech(thing), True, thing)

    def no(self, thing):
        self.assertIs(is_speech(thing), False, thing)

    def test_ordinary_speeches(self):
        rand = samples.drawn(7)
        for speech in (SPEECH, SIDED):
            self.yes(speech)
        for _ in range(200):
            self.yes(samples.speech_at_random(rand))

    def test_from_1_to_8_stands(self):
        self.no((0, 0, ()))
        for many in range(1, 9):
            self.yes(speech_of(many))
        for many in (9, 10, 1000):
            self.no(speech_of(many))

    def test_words(self):
        for word in ("", "a", "z", "abcdefgh"):
            self.yes((0, 0, ((word, 0, 0, 0, 0),)))
        for word in NO_WORDS + samples.any_things():
            self.no((0, 0, ((word, 0, 0, 0, 0),)))

    def test_numbers_are_those_of_stands(self):
        for many in (1, 2, 8):
            stands = speech_of(many)[2]
            for number in (0, many - 1):
                self.yes((number, 0, stands))
                self.yes((0, number, stands))
                for at in range(1, 5):
                    stand = ("a",) + (0,) * (at - 1) + (number,) + (0,) * (4 - at)
                    self.yes((0, 0, stands[1:] + (stand,)))
            for number in (-1, many, many + 1, -many, 10 ** 30):
                self.no((number, 0, stands))
                self.no((0, number, stands))
                for at in range(1, 5):
                    stand = ("a",) + (0,) * (at - 1) + (number,) + (0,) * (4 - at)
                    self.no((0, 0, stands[1:] + (stand,)))
                    self.no((0, 0, (stand,) + stands[1:]))

    def test_true_and_false_are_no_numbers(self):
        stands = speech_of(2)[2]
        for wrong in (True, False):
            self.no((wrong, 0, stands))
            self.no((0, wrong, stands))
            for at in range(1, 5):
                stand = ("a",) + (0,) * (at - 1) + (wrong,) + (0,) * (4 - at)
                self.no((0, 0, stands + (stand,)))

    def test_numbers_of_any_kind(self):
        stands = speech_of(2)[2]
        for thing in samples.any_things():
            if type(thing) is not int or thing not in (0, 1):
                self.no((thing, 0, stands))
                self.no((0, thing, stands))
                self.no((0, 0, stands + (("a", 0, 0, 0, thing),)))
                self.no((0, 0, stands + (("a", thing, 0, 0, 0),)))
        self.no(("0", 0, stands))

    def test_tuples_too_short_and_too_long(self):
        stands = speech_of(2)[2]
        for thing in ((0, 0), (0, stands), (0, 0, stands, 0), (0, 0, 0, stands), stands, (stands,)):
            self.no(thing)
        for stand in (("a", 0, 0, 0), ("a", 0, 0, 0, 0, 0), (0, 0, 0, 0), (), ("a",)):
            self.no((0, 0, (stand,)))
            self.no((0, 0, stands + (stand,)))

    def test_lists_are_no_tuples(self):
        he, she, stands = SPEECH
        self.no([he, she, stands])
        self.no((he, she, list(stands)))
        self.no((he, she, tuple(map(list, stands))))
        self.no((he, she, stands[:-1] + (list(stands[-1]),)))
        self.no((he, she, dict(enumerate(stands))))

    def test_things_of_any_kind(self):
        for thing in samples.any_things():
            self.no(thing)
            self.no((0, 0, thing))
            self.no((0, 0, (thing,)))


class WordOf(unittest.TestCase):
    def test_the_empty_row_has_the_word_of_the_first_stand(self):
        self.assertEqual(word_of(SIDED, "he", ""), "ego")
        self.assertEqual(word_of(SIDED, "she", ""), "ega")

    def test_each_step_has_its_number(self):
        speech = (4, 3, (
            ("up", 0, 0, 0, 0), ("am", 1, 1, 1, 1), ("son", 2, 2, 2, 2),
            ("she", 0, 1, 2, 4), ("he", 0, 1, 2, 3),
        ))
        for step, word in (("f", "up"), ("m", "am"), ("s", "son"), ("d", "she")):
            self.assertEqual(word_of(speech, "he", step), word)
        self.assertEqual(word_of(speech, "she", "d"), "he")
        self.assertEqual(word_of(speech, "he", "dd"), "he")
        self.assertEqual(word_of(speech, "he", "ddd"), "she")

    def test_silence_is_a_word(self):
        self.assertEqual(word_of(SPEECH, "he", "ff"), "")

    def test_rows_that_are_not_straight_have_words(self):
        self.assertEqual(word_of(SPEECH, "he", "sf"), "")
        self.assertEqual(word_of(SIDED, "he", "sf"), "elder")
        self.assertEqual(word_of(SIDED, "he", "sm"), "heir")

    def test_rows_of_60_steps(self):
        speech = (0, 1, (("even", 1, 1, 1, 1), ("oddoddod", 0, 0, 0, 0)))
        self.assertEqual(word_of(speech, "he", "fmsd" * 15), "even")
        self.assertEqual(word_of(speech, "he", "fmsd" * 14 + "fms"), "oddoddod")
        self.assertEqual(word_of(speech, "she", "fmsd" * 15), "oddoddod")

    def test_speeches_drawn(self):
        rand = samples.drawn(8)
        for many in range(1, 9):
            for _ in range(5):
                speech = samples.speech_at_random(rand, many)
                for sex in ("he", "she"):
                    for row in SHORT[:100] + [samples.row_at_random(rand, 60)]:
                        expected = slow.word_of(speech, sex, row)
                        self.assertEqual(word_of(speech, sex, row), expected)

    def test_refusals_in_their_order(self):
        for speech in samples.any_things():
            for sex, row in (("he", "f"), (None, None), ("he", "x"), ("x", "f")):
                with self.assertRaises(NoSpeech):
                    word_of(speech, sex, row)
        for sex in samples.any_things() + NO_SEXES:
            for row in ("f", None, "x"):
                with self.assertRaises(NoSex):
                    word_of(SPEECH, sex, row)
        for row in samples.any_things() + NO_ROWS:
            with self.assertRaises(NoRow):
                word_of(SPEECH, "she", row)


class Called(unittest.TestCase):
    def test_a_plain_family(self):
        for one, other, expected in (
            ("cal", "bob", ["old"]), ("bob", "fay", ["kid"]), ("cal", "dan", ["sib"]),
            ("cal", "hel", [""]), ("bob", "bob", ["me"]), ("cal", "zed", []),
        ):
            self.assertEqual(called(HOUSE, SPEECH, one, other), expected)

    def test_it_is_the_ones_sex_that_counts(self):
        self.assertEqual(called(HOUSE, SIDED, "cal", "cal"), ["ego"])
        self.assertEqual(called(HOUSE, SIDED, "fay", "fay"), ["ega"])
        self.assertEqual(called(HOUSE, SIDED, "bob", "cal"), ["heir"])
        self.assertEqual(called(HOUSE, SIDED, "eve", "cal"), ["child"])

    def test_several_words_for_several_rows(self):
        self.assertEqual(called(HOUSE, SIDED, "cal", "fay"), ["peer"])
        self.assertEqual(called(HOUSE, SIDED, "cal", "dan"), ["elder", "peer"])
        # Two rows of the same word: it is told once.
        self.assertEqual(called(HOUSE, SPEECH, "cal", "dan"), ["sib"])

    def test_a_family_that_is_not_plain(self):
        # From pa, cyd is a son's daughter and a daughter's; from cyd, dot a half sister.
        speech = (0, 0, (
            ("a", 1, 2, 3, 4), ("b", 1, 1, 1, 1), ("c", 2, 2, 2, 2), ("d", 5, 6, 7, 7),
            ("e", 6, 5, 2, 1), ("f", 5, 5, 5, 5), ("g", 6, 6, 6, 6), ("h", 7, 7, 7, 7),
        ))
        self.assertEqual(called(RING, speech, "pa", "cyd"), ["b", "h"])
        self.assertEqual(called(RING, speech, "cyd", "pa"), ["b", "c"])
        self.assertEqual(called(RING, speech, "cyd", "dot"), ["b"])
        self.assertEqual(called(RING, speech, "al", "bea"), ["b", "c", "f"])
        self.assertEqual(who(RING, speech, "pa", "b"), ["cyd"])
        self.assertEqual(who(RING, speech, "pa", "h"), ["cyd", "dot"])

    def test_families_drawn_plain_or_not(self):
        rand = samples.drawn(9)
        for at in range(60):
            draw = samples.plain_family_at_random if at % 2 else samples.family_at_random
            family = draw(rand, rand.randint(1, 14))
            speech = samples.speech_at_random(rand)
            for one, *_ in family:
                for other, *_ in family:
                    expected = slow.called(family, speech, one, other)
                    self.assertEqual(called(family, speech, one, other), expected)

    def test_in_plain_families_the_words_are_those_of_the_rows(self):
        rand = samples.drawn(10)
        for _ in range(20):
            family = samples.plain_family_at_random(rand, rand.randint(7, 16))
            speech = samples.speech_at_random(rand)
            for one, sex, *_ in family:
                for other, *_ in family:
                    told = sorted({word_of(speech, sex, row) for row in rows(family, one, other)})
                    self.assertEqual(called(family, speech, one, other), told)

    def test_what_is_told_is_a_new_list_of_texts(self):
        told = called(HOUSE, SIDED, "cal", "dan")
        self.assertIs(type(told), list)
        told.append("x")
        self.assertEqual(called(HOUSE, SIDED, "cal", "dan"), ["elder", "peer"])
        called(HOUSE, SIDED, "cal", "zed").append("x")
        self.assertEqual(called(HOUSE, SIDED, "cal", "zed"), [])


class Who(unittest.TestCase):
    def test_a_plain_family(self):
        self.assertEqual(who(HOUSE, SPEECH, "bob", "kid"), ["cal", "dan", "fay", "gus"])
        self.assertEqual(who(HOUSE, SPEECH, "cal", "old"), ["bob", "eve"])
        self.assertEqual(who(HOUSE, SPEECH, "cal", "sib"), ["dan", "fay", "gus"])
        self.assertEqual(who(HOUSE, SPEECH, "cal", "nobody"), [])

    def test_silence_is_a_word_but_with_no_row_there_is_none(self):
        self.assertEqual(who(HOUSE, SPEECH, "cal", ""), ["ann", "hel", "kit", "ma", "pa"])
        self.assertEqual(who(HOUSE, SPEECH, "zed", ""), [])

    def test_nobody_is_among_the_others(self):
        for one, *_ in HOUSE:
            self.assertEqual(who(HOUSE, SPEECH, one, "me"), [])
        same = (0, 0, (("kin", 0, 0, 0, 0),))
        self.assertEqual(who(HOUSE, same, "gus", "kin"), [
            "ann", "bob", "cal", "dan", "eve", "fay", "hel", "kit", "ma", "pa",
        ])

    def test_perhaps_among_more(self):
        self.assertEqual(who(HOUSE, SIDED, "cal", "elder"), ["ann", "dan", "hel", "ma", "pa"])
        self.assertEqual(who(HOUSE, SIDED, "cal", "peer"), ["dan", "fay", "gus", "kit"])

    def test_words_of_8_letters(self):
        speech = (0, 0, (("abcdefgh", 0, 0, 0, 0),))
        self.assertEqual(who(RING, speech, "pa", "abcdefgh"), ["al", "bea", "cyd", "dot", "ma"])
        self.assertEqual(who(RING, speech, "pa", "abcdefg"), [])

    def test_families_drawn_plain_or_not(self):
        rand = samples.drawn(11)
        for at in range(30):
            draw = samples.plain_family_at_random if at % 2 else samples.family_at_random
            family = draw(rand, rand.randint(1, 14))
            speech = samples.speech_at_random(rand)
            for one, *_ in family:
                for word in ("", "a", "b", "ab", speech[2][0][0]):
                    expected = slow.who(family, speech, one, word)
                    self.assertEqual(who(family, speech, one, word), expected)

    def test_what_is_told_is_a_new_list_of_texts(self):
        told = who(HOUSE, SPEECH, "cal", "old")
        self.assertIs(type(told), list)
        told.clear()
        self.assertEqual(who(HOUSE, SPEECH, "cal", "old"), ["bob", "eve"])


class Refusals(unittest.TestCase):
    def test_no_family_comes_first(self):
        for family in samples.any_things() + [(), HOUSE + HOUSE]:
            for rest in ((SPEECH, "pa", "ma"), (None, None, None), (SPEECH, [], "X")):
                for call in (called, who):
                    with self.assertRaises(NoFamily):
                        call(family, *rest)

    def test_then_no_speech(self):
        for speech in samples.any_things() + [speech_of(9)]:
            for rest in (("pa", "ma"), (None, None), ([], "X")):
                for call in (called, who):
                    with self.assertRaises(NoSpeech):
                        call(HOUSE, speech, *rest)

    def test_then_no_name(self):
        for name in samples.any_things() + ["", "nobody", "p", "paa"]:
            for one, other in ((name, "pa"), ("pa", name), (name, name)):
                with self.assertRaises(NoName):
                    called(HOUSE, SPEECH, one, other)
            for word in ("old", "X", None, []):
                with self.assertRaises(NoName):
                    who(HOUSE, SPEECH, name, word)

    def test_then_no_word(self):
        for word in samples.any_things() + NO_WORDS:
            with self.assertRaises(NoWord):
                who(HOUSE, SPEECH, "pa", word)
