"""Two speeches held against one another, and which words of a speech answer which."""

from kincalls.errors import TooMany
from kincalls.families import SEXES
from kincalls.speeches import first_stand, need_speech, need_word, next_stand, word_at
from kincalls.steps import back_step, chain_of
from kincalls.sure import MOST_ENDS, come_to, need_sure, steps_from


def both_beyond(speech, other, spot):
    """The steps from where both speeches stand: (step, where both stand behind it)."""
    sex, way, here, there = spot
    return [
        (step, (near, come, next_stand(speech, here, step), next_stand(other, there, step)))
        for step, near, come in steps_from(sex, way)
    ]


def unlike(speech, other):
    """(family, one, other), a least chain in which one calls another otherwise, or None."""
    need_speech(speech)
    need_speech(other)
    need_sure(speech)
    need_sure(other)
    starts = [(sex, "free", first_stand(speech, sex), first_stand(other, sex)) for sex in SEXES]
    found = come_to(starts, lambda spot: both_beyond(speech, other, spot))
    for (_, _, here, there), (sex, row) in found.items():
        if word_at(speech, here) != word_at(other, there):
            return chain_of(sex, row)
    return None


def led_back(speech, sex, leading, step):
    """The leading of a row with a step more, which one of this sex takes."""
    # From the other end that step comes first, the other way round.
    back = back_step(sex, step)
    return tuple([leading[next_stand(speech, stand, back)] for stand in range(len(leading))])


def ends_beyond(speech, end):
    """The steps from the end of a straight row: (step, the end behind it)."""
    sex, way, stand, leading = end
    return [
        (step, (near, come, next_stand(speech, stand, step), led_back(speech, sex, leading, step)))
        for step, near, come in steps_from(sex, way)
    ]


def ends_of(speech):
    """The ends of all straight rows with steps, as come_to tells them; TooMany of too many."""
    itself = tuple(range(len(speech[2])))
    starts = [(sex, "free", first_stand(speech, sex), itself) for sex in SEXES]
    found = come_to(starts, lambda end: ends_beyond(speech, end))
    # The empty rows end somewhere, too, and not always where a row with steps does.
    if len(found) + len([end for end in starts if end not in found]) > MOST_ENDS:
        raise TooMany("there are more than 3000 ends of straight rows")
    return found


def rows_answered(speech):
    """For each pair (word, answer) the sex and the steps of a least row that shows it."""
    need_speech(speech)
    need_sure(speech)
    shown = {}
    for (sex, _, stand, leading), told in ends_of(speech).items():
        answer = word_at(speech, leading[first_stand(speech, sex)])
        shown.setdefault((word_at(speech, stand), answer), told)
    return shown


def answers(speech):
    """The rising list of the pairs (word, answer) of the speech."""
    return sorted(rows_answered(speech))


def answering(speech, word, answer):
    """(family, one, other), a least chain in which the word is answered so, or None."""
    shown = rows_answered(speech)
    need_word(word)
    need_word(answer)
    if (word, answer) not in shown:
        return None
    sex, row = shown[(word, answer)]
    return chain_of(sex, row)
