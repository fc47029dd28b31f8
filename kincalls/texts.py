"""Speeches and families as texts, written and read."""

from kincalls.errors import NoText
from kincalls.families import is_family, need_family
from kincalls.speeches import MOST_STANDS, is_speech, need_speech

# As long as 40 lines of a family; no speech takes more.
MOST_SIGNS = 1000


def lines_text(lines):
    """The text of lines, each told by its words."""
    return "".join([" ".join(words) + "\n" for words in lines])


def written_speech(speech):
    """The text of a speech."""
    he, she, stands = speech
    lines = [["he", str(he), "she", str(she)]]
    for word, *numbers in stands:
        lines.append([word or "-"] + [str(number) for number in numbers])
    return lines_text(lines)


def written_family(family):
    """The text of a family."""
    return lines_text([[told or "-" for told in person] for person in family])


def speech_text(speech):
    """The speech, written."""
    need_speech(speech)
    return written_speech(speech)


def family_text(family):
    """The family, written."""
    need_family(family)
    return written_family(family)


def lines_of(text):
    """The lines of a text, up to its last line feed, each told by its words."""
    # The length is asked first, so that no long text is read through.
    if not isinstance(text, str) or len(text) > MOST_SIGNS:
        raise NoText("this is no text of such a length")
    return [line.split(" ") for line in text.split("\n")[:-1]]


def read_stand(words, numbers):
    """A stand, if what it is told by is right."""
    word, *rest = words
    return ("" if word == "-" else word, *[numbers.get(told) for told in rest])


def read_person(words):
    """A person, if what it is told by is right."""
    return (*words[:2], *[None if parent == "-" else parent for parent in words[2:]])


def read_speech(text):
    """The speech that is written so."""
    lines = lines_of(text)
    if not lines or len(lines[0]) != 4:
        raise NoText("there is no first line with two numbers")
    numbers = {str(number): number for number in range(MOST_STANDS)}
    stands = tuple([read_stand(words, numbers) for words in lines[1:]])
    speech = (numbers.get(lines[0][1]), numbers.get(lines[0][3]), stands)
    # What is not written so comes out otherwise when it is written again.
    if not is_speech(speech) or written_speech(speech) != text:
        raise NoText("this is no speech as it is written")
    return speech


def read_family(text):
    """The family that is written so."""
    family = tuple([read_person(words) for words in lines_of(text)])
    # What is not written so comes out otherwise when it is written again.
    if not is_family(family) or written_family(family) != text:
        raise NoText("this is no family as it is written")
    return family
