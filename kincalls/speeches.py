"""Speeches, the words of rows, and who calls whom what."""

from kincalls.errors import NoSpeech, NoWord
from kincalls.families import distances, is_letters, need_family, need_name, ways_of
from kincalls.steps import STEPS, need_row, need_sex

MOST_STANDS = 8
MOST_WORD = 8


def is_word(thing):
    """Whether it is a word: a text of up to 8 letters, silence too."""
    return is_letters(thing, MOST_WORD)


def is_number(thing, many):
    """Whether it is one of the numbers from 0 on, so many of them."""
    # True and False are integers to Python, but no whole numbers here.
    if not isinstance(thing, int) or isinstance(thing, bool):
        return False
    return 0 <= thing < many


def is_stand(thing, many):
    """Whether it is a stand of a speech that has so many stands."""
    if not isinstance(thing, tuple) or len(thing) != 1 + len(STEPS):
        return False
    word, *numbers = thing
    return is_word(word) and all([is_number(number, many) for number in numbers])


def is_speech(thing):
    """Whether it is a speech."""
    if not isinstance(thing, tuple) or len(thing) != 3:
        return False
    he, she, stands = thing
    if not isinstance(stands, tuple) or not 1 <= len(stands) <= MOST_STANDS:
        return False
    many = len(stands)
    if not is_number(he, many) or not is_number(she, many):
        return False
    return all([is_stand(stand, many) for stand in stands])


def need_speech(thing):
    """Refuse what is no speech."""
    if not is_speech(thing):
        raise NoSpeech("this is no speech")


def need_word(thing):
    """Refuse what is no word."""
    if not is_word(thing):
        raise NoWord("this is no text of up to 8 letters")


def first_stand(speech, sex):
    """The number of the stand from which rows lead for one of this sex."""
    return speech[0] if sex == "he" else speech[1]


def next_stand(speech, stand, step):
    """The number of the stand to which a step leads from a stand."""
    return speech[2][stand][1 + STEPS.index(step)]


def stand_behind(speech, stand, row):
    """The number of the stand to which a row leads from a stand."""
    behind = stand
    for step in row:
        behind = next_stand(speech, behind, step)
    return behind


def word_at(speech, stand):
    """The word of the stand of this number."""
    return speech[2][stand][0]


def word_of(speech, sex, row):
    """The word of the stand to which the row leads from one of this sex."""
    need_speech(speech)
    need_sex(sex)
    need_row(row)
    return word_at(speech, stand_behind(speech, first_stand(speech, sex), row))


def sex_in(family, one):
    """The sex of the person of this name."""
    return [person[1] for person in family if person[0] == one][0]


def stands_for(family, speech, one):
    """For each name to which a row leads from the one, the stands behind all rows between them."""
    ways = ways_of(family)
    far = distances(ways, one)
    reached = {name: {} for name in far}
    reached[one][first_stand(speech, sex_in(family, one))] = True
    # The nearest ones come first: when one is gone on from, all rows to it are in.
    for name in far:
        stands = list(reached[name])
        for step, near in ways[name]:
            if far[near] > far[name]:
                for stand in stands:
                    reached[near][next_stand(speech, stand, step)] = True
    return {name: sorted(stands) for name, stands in reached.items()}


def words_for(family, speech, one):
    """For each name to which a row leads from the one, the rising list of the words."""
    words = [stand[0] for stand in speech[2]]
    reached = stands_for(family, speech, one)
    return {name: sorted({words[at] for at in stands}) for name, stands in reached.items()}


def words_between(family, speech, one, other):
    """The rising list of the words of all rows from the one to the other."""
    return words_for(family, speech, one).get(other, [])


def names_called(family, speech, one, word):
    """The rising list of the names of all others whom the one calls by the word."""
    words = words_for(family, speech, one)
    return sorted([name for name, told in words.items() if name != one and word in told])


def called(family, speech, one, other):
    """The rising list of the unlike words by which the one calls the other."""
    need_family(family)
    need_speech(speech)
    need_name(family, one)
    need_name(family, other)
    return words_between(family, speech, one, other)


def who(family, speech, one, word):
    """The rising list of the names of all others whom the one calls by the word."""
    need_family(family)
    need_speech(speech)
    need_name(family, one)
    need_word(word)
    return names_called(family, speech, one, word)
