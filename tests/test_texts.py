"""Point 13: speeches and families as texts, written and read."""

import re
import unittest

from kincalls.errors import NoFamily, NoSpeech, NoText
from kincalls.families import is_family
from kincalls.speeches import is_speech
from kincalls.texts import family_text, read_family, read_speech, speech_text
from tests import samples, speech_samples
from tests.samples import HOUSE, SIDED, SPEECH
from tests.test_quick import name_of
from tests.test_speeches import speech_of

SPEECH_TEXT = "he 0 she 0\nme 1 1 2 2\nold 4 4 3 3\nkid 4 4 4 4\nsib 4 4 4 4\n- 4 4 4 4\n"
HOUSE_TEXT = (
    "pa he - -\nma she - -\nann she pa ma\nbob he pa ma\neve she - -\nkit she - -\n"
    "cal he bob eve\ndan he bob eve\nfay she bob eve\ngus he bob kit\nhel she - ann\nzed he - -\n"
)
SPEECH_LINES = re.compile("he ([0-7]) she ([0-7])\n((?:(?:-|[a-z]{1,8})(?: [0-7]){4}\n){1,8})", re.ASCII)
FAMILY_LINES = re.compile("(?:[a-z]{1,6} s?he(?: (?:-|[a-z]{1,6})){2}\n){1,40}", re.ASCII)


def slow_speech(text):
    """The speech that is written so, or None."""
    found = SPEECH_LINES.fullmatch(text)
    if not found:
        return None
    stands = []
    for line in found[3].splitlines():
        word, *numbers = line.split()
        stands.append((word.replace("-", ""), *map(int, numbers)))
    speech = (int(found[1]), int(found[2]), tuple(stands))
    return speech if is_speech(speech) else None


def slow_family(text):
    """The family that is written so, or None."""
    if not FAMILY_LINES.fullmatch(text):
        return None
    lines = [line.split() for line in text.splitlines()]
    family = tuple((name, sex, *(None if p == "-" else p for p in parents)) for name, sex, *parents in lines)
    return family if is_family(family) else None


def changed_texts(rand, text, times):
    """The text with signs put in, left out and changed, and its lines left out, doubled and moved."""
    signs = "a-he01278 \n\t\r\x0b\x0c\x1c\u00a0\u2028\u0661\u00b2+-_fmsd\ud800"
    for _ in range(times):
        at = rand.randrange(len(text))
        sign = rand.choice(signs)
        yield text[:at] + sign + text[at:]
        yield text[:at] + sign + text[at + 1:]
        yield text[:at] + text[at + 1:]
        yield text[:at] + text[at] + text[at:]
        lines = text.splitlines(True)
        at = rand.randrange(len(lines))
        line = lines.pop(at)
        yield "".join(lines)
        yield "".join(lines[:at] + [line, line] + lines[at:])
        to = rand.randint(0, len(lines))
        yield "".join(lines[:to] + [line] + lines[to:])


class Reads(unittest.TestCase):
    def no_speech(self, *texts):
        for text in texts:
            with self.assertRaises(NoText, msg=repr(text)):
                read_speech(text)

    def no_family(self, *texts):
        for text in texts:
            with self.assertRaises(NoText, msg=repr(text)):
                read_family(text)


class Written(Reads):
    def test_a_speech(self):
        self.assertEqual(speech_text(SPEECH), SPEECH_TEXT)
        self.assertEqual(read_speech(SPEECH_TEXT), SPEECH)
        self.assertEqual(speech_text((1, 0, (("", 0, 1, 0, 1), ("abcdefgh", 1, 1, 1, 0)))),
                         "he 1 she 0\n- 0 1 0 1\nabcdefgh 1 1 1 0\n")

    def test_a_family(self):
        self.assertEqual(family_text(HOUSE), HOUSE_TEXT)
        self.assertEqual(read_family(HOUSE_TEXT), HOUSE)
        self.assertEqual(family_text((("abcdef", "he", None, None), ("a", "she", "abcdef", None))),
                         "abcdef he - -\na she abcdef -\n")

    def test_names_and_words_that_are_words_of_the_writing(self):
        speech = (0, 1, (("he", 0, 1, 0, 1), ("she", 1, 0, 1, 0), ("", 0, 0, 0, 0)))
        self.assertEqual(speech_text(speech), "he 0 she 1\nhe 0 1 0 1\nshe 1 0 1 0\n- 0 0 0 0\n")
        self.assertEqual(read_speech(speech_text(speech)), speech)
        family = (("he", "he", None, None), ("she", "she", None, None), ("f", "she", "he", "she"))
        self.assertEqual(family_text(family), "he he - -\nshe she - -\nf she he she\n")
        self.assertEqual(read_family(family_text(family)), family)

    def test_what_is_read_is_of_the_right_kinds(self):
        he, she, stands = read_speech(SPEECH_TEXT)
        self.assertEqual([type(thing) for thing in (he, she, stands, *stands)], [int, int] + [tuple] * 6)
        self.assertEqual([type(thing) for thing in stands[0]], [str, int, int, int, int])
        family = read_family(HOUSE_TEXT)
        self.assertEqual({type(thing) for thing in (family, *family)}, {tuple})
        self.assertIs(type(speech_text(SPEECH)), str)

    def test_drawn_ones_are_read_back(self):
        rand = samples.drawn(81)
        for _ in range(200):
            for speech in (samples.speech_at_random(rand), speech_samples.drawn_speech(rand)):
                self.assertEqual(read_speech(speech_text(speech)), speech)
            family = samples.family_at_random(rand, rand.randint(1, 40))
            self.assertEqual(read_family(family_text(family)), family)

    def test_the_longest_ones(self):
        stands = (("abcdefgh", 7, 7, 7, 7),) * 8
        self.assertEqual(read_speech(speech_text((7, 7, stands))), (7, 7, stands))
        self.assertEqual(read_speech(speech_text(speech_of(1))), speech_of(1))
        names = [name_of(at) + "abcd" for at in range(40)]
        family = tuple(
            (name, "he" if at == 0 else "she", names[0] if at else None, names[1] if at > 1 else None)
            for at, name in enumerate(names)
        )
        self.assertTrue(is_family(family))
        self.assertEqual(read_family(family_text(family)), family)


class Changed(Reads):
    def test_speeches(self):
        rand = samples.drawn(82)
        read = 0
        for _ in range(120):
            text = speech_text(samples.speech_at_random(rand))
            for changed in changed_texts(rand, text, 6):
                expected = slow_speech(changed)
                if expected is None:
                    self.no_speech(changed)
                else:
                    read += 1
                    self.assertEqual(read_speech(changed), expected)
                    self.assertEqual(speech_text(expected), changed)
        self.assertGreater(read, 200)

    def test_families(self):
        rand = samples.drawn(83)
        read = 0
        for _ in range(120):
            text = family_text(samples.family_at_random(rand, rand.randint(1, 12)))
            for changed in changed_texts(rand, text, 6):
                expected = slow_family(changed)
                if expected is None:
                    self.no_family(changed)
                else:
                    read += 1
                    self.assertEqual(read_family(changed), expected)
                    self.assertEqual(family_text(expected), changed)
        self.assertGreater(read, 200)


class NoTexts(Reads):
    def test_numbers_of_a_speech(self):
        for number in ("+0", "-0", "00", "01", "0.", "0_0", "", "1", "-1", "a", "-", "0x0", "\u0660", "\u00b2", "8"):
            self.no_speech(f"he {number} she 0\na 0 0 0 0\n", f"he 0 she {number}\na 0 0 0 0\n")
            for at in range(4):
                numbers = ["0"] * 4
                numbers[at] = number
                self.no_speech("he 0 she 0\na " + " ".join(numbers) + "\n")

    def test_words_of_a_speech(self):
        for word in ("", "--", "A", "abcdefghi", "a-", "a1", "\u00e4", "0", " ", "None"):
            self.no_speech(f"he 0 she 0\n{word} 0 0 0 0\n")

    def test_the_first_line_of_a_speech(self):
        for line in ("", "he 0", "he 0 she", "he 0 she 0 0", "she 0 he 0", "he 0 he 0", "He 0 she 0",
                     "he 0  she 0", " he 0 she 0", "he 0 she 0 ", "he0 she0", "0 0", "he\t0 she 0", "she 0 she 0"):
            self.no_speech(line + "\na 0 0 0 0\n")
        self.no_speech("a 0 0 0 0\n", "a 0 0 0 0\nhe 0 she 0\n", "he 0 she 0\nhe 0 she 0\na 0 0 0 0\n")

    def test_the_lines_of_stands(self):
        for line in ("", "a", "a 0 0 0", "a 0 0 0 0 0", "a  0 0 0 0", " a 0 0 0 0", "a 0 0 0 0 ", "a 0 0 0  0",
                     "a 0 0 0\t0", "a 0 0 0 0\r", "0 0 0 0", "a,0,0,0,0", "a 0 0 0 0\x0b", "a 0 0 0 0\u2028"):
            self.no_speech("he 0 she 0\n" + line + "\n", SPEECH_TEXT + line + "\n")

    def test_line_feeds(self):
        for text, no in ((SPEECH_TEXT, self.no_speech), (HOUSE_TEXT, self.no_family)):
            no(text[:-1], text + "\n", "\n" + text, text.replace("\n", "\r\n"), text.replace("\n", "\r"),
               text.replace("\n", "\n\n", 1), text.replace("\n", " \n"), text + " ", text + "\x00",
               text.replace("\n", "\u2028"), text.replace("\n", "\x0b"), text.replace("\n", " "), text * 2, "\ufeff" + text)
        self.no_speech("", "\n", " ", "-", "he 0 she 0", "he 0 she 0\n", "\n\n")
        self.no_family("", "\n", " ", "-", "\n\n", "a he - -")

    def test_speeches_that_are_none(self):
        for many in range(1, 9):
            self.assertEqual(read_speech("he 0 she 0\n" + "a 0 0 0 0\n" * many), speech_of(many))
            self.no_speech(f"he {many} she 0\n" + "a 0 0 0 0\n" * many, f"he 0 she {many}\n" + "a 0 0 0 0\n" * many)
            for line in (f"a {many} 0 0 0\n", f"a 0 {many} 0 0\n", f"a 0 0 {many} 0\n", f"a 0 0 0 {many}\n"):
                self.no_speech("he 0 she 0\n" + "a 0 0 0 0\n" * (many - 1) + line)
        for many in (0, 9, 10, 100):
            self.no_speech("he 0 she 0\n" + "a 0 0 0 0\n" * many)

    def test_families_that_are_none(self):
        self.no_family(
            # Told behind the child, not at all, oneself, of the other sex, a name twice.
            "al he pa -\npa he - -\n", "al he pa -\n", "al he al -\n", "al she - al\n",
            "pa he - -\nal he - pa\n", "ma she - -\nal he ma -\n", "pa he - -\npa he - -\n", "pa he - -\npa she - -\n",
            # A name, a sex or a parent that is none.
            "- he - -\n", " he - -\n", "A he - -\n", "abcdefg he - -\n", "a1 he - -\n", "al - - -\n", "al hes - -\n",
            "al  - -\n", "al HE - -\n", "al he  -\n", "al he -- -\n", "al he None None\n", "al he none -\n",
            # Words that are too few or too many.
            "al he -\n", "al he\n", "al he - - -\n", "al he - -  \n", "al  he - -\n", " al he - -\n", "al\the - -\n",
        )

    def test_40_persons_and_one_more(self):
        text = "".join(name_of(at) + " he - -\n" for at in range(41))
        lines = text.splitlines(True)
        self.assertEqual(len(read_family("".join(lines[:40]))), 40)
        self.no_family(text, "".join(lines[1:40] + lines[1:2]))

    def test_one_is_not_read_as_the_other(self):
        self.no_speech(HOUSE_TEXT)
        self.no_family(SPEECH_TEXT)

    def test_things_of_any_other_kind(self):
        for thing in samples.any_things() + [HOUSE, SPEECH, SIDED, [SPEECH_TEXT], (HOUSE_TEXT,),
                                             SPEECH_TEXT.encode(), HOUSE_TEXT.encode(), HOUSE_TEXT.split("\n")]:
            self.no_speech(thing)
            self.no_family(thing)


class Refusals(unittest.TestCase):
    def test_no_speech(self):
        for thing in samples.any_things() + [(), HOUSE, SPEECH_TEXT, speech_of(9), (True, 0, SPEECH[2])]:
            with self.assertRaises(NoSpeech):
                speech_text(thing)

    def test_no_family(self):
        for thing in samples.any_things() + [(), SPEECH, HOUSE_TEXT, HOUSE[::-1], HOUSE + HOUSE]:
            with self.assertRaises(NoFamily):
                family_text(thing)


if __name__ == "__main__":
    unittest.main()
