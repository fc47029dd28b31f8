"""Whether speeches are sure: a least family where one is not, a paper where it is."""

from kincalls.errors import NotSure
from kincalls.families import SEXES, is_sex
from kincalls.speeches import first_stand, is_number, need_speech, next_stand, stand_behind, word_at
from kincalls.steps import UPWARD, chain_persons, depths_along, in_births, name_of, sex_behind

WAYS = ("free", "he", "she", "both")
MOST_ENDS = 3000

# Where two rows lead to one person, by a sign of its own: to a full brother, to
# a full sister, to a wife and to a husband with whom one has a son and a daughter.
CHOICES = {"B": ("fs", "ms"), "Z": ("fd", "md"), "W": ("sm", "dm"), "H": ("sf", "df")}


def steps_from(sex, way):
    """The steps that may be gone from one of this sex: (step, sex behind it, way behind it)."""
    ups = []
    for step, barred in (("f", "he"), ("m", "she")):
        # Who was come to down from a he has him for a father, and would lead back to him.
        if way not in (barred, "both"):
            ups.append((step, sex_behind(step), "free"))
    return ups + [(step, sex_behind(step), sex) for step in "sd"]


def choices_from(sex, way):
    """The signs of the choices that one of this sex has."""
    # Who was come to down from a parent has that couple behind, with the full siblings.
    siblings = ["B", "Z"] if way == "free" else []
    return siblings + (["W"] if sex == "he" else ["H"])


def pair_behind(speech, stand, sign):
    """The pair that a choice is, of the stands behind its two rows from this stand."""
    first, second = CHOICES[sign]
    way = "both" if first[0] in UPWARD else "free"
    return (
        sex_behind(first[1]),
        way,
        stand_behind(speech, stand, first),
        stand_behind(speech, stand, second),
    )


def moves_from(speech, spot):
    """The steps from a place or a pair, and a place's choices: (sign, place or pair come to)."""
    sex, way, *stands = spot
    moves = []
    for step, near, come in steps_from(sex, way):
        behind = [next_stand(speech, stand, step) for stand in stands]
        moves.append((step, (near, come, *behind)))
    if len(stands) == 1:
        for sign in choices_from(sex, way):
            moves.append((sign, pair_behind(speech, stands[0], sign)))
    return moves


def come_to(starts, moves):
    """All to which one move or more lead, the nearest ones first: the first one's sex, and the moves."""
    found = {}
    edge = {spot: (spot[0], "") for spot in starts}
    # The limit is for answers: the places and pairs of a speech are fewer by far.
    while edge and len(found) <= MOST_ENDS:
        beyond = {}
        for spot, (sex, signs) in edge.items():
            for sign, near in moves(spot):
                if near not in found:
                    found[near] = (sex, signs + sign)
                    beyond[near] = found[near]
        edge = beyond
    return found


def first_places(speech):
    """The places of him and of her who speak."""
    return [(sex, "free", first_stand(speech, sex)) for sex in SEXES]


def spots_of(speech):
    """The places and pairs to which one move or more lead, as come_to tells them."""
    return come_to(first_places(speech), lambda spot: moves_from(speech, spot))


def is_split(speech, spot):
    """Whether the stands of a place or a pair have unlike words."""
    return len({word_at(speech, stand) for stand in spot[2:]}) > 1


def nearest_split(speech):
    """The sex and the moves to a nearest pair with unlike words, or None."""
    # There is one choice on each way to a pair, so fewer moves are fewer persons.
    for spot, told in spots_of(speech).items():
        if is_split(speech, spot):
            return told
    return None


def need_sure(speech):
    """Refuse a speech that is not sure."""
    if nearest_split(speech) is not None:
        raise NotSure("this speech is not sure")


def forked(sex, row, at):
    """The family of a row, and of her who stands beside the one behind its step there."""
    persons = chain_persons(sex, row)
    depths = depths_along(row)
    name = name_of(len(persons))
    if row[at] in UPWARD:
        for child in (at, at + 2):
            persons[child] = persons[child][:3] + (name,)
        persons.append((name, "she", None, None))
    else:
        persons.append((name, "she") + persons[at + 1][2:])
    depths.append(depths[at + 1])
    return in_births(persons, depths), persons[0][0], persons[-2][0]


def unsure(speech):
    """(family, one, other, row, row) with unlike words and the fewest persons, or None."""
    need_speech(speech)
    told = nearest_split(speech)
    if told is None:
        return None
    sex, signs = told
    at = [place for place, sign in enumerate(signs) if sign in CHOICES][0]
    row, beside = [signs.replace(signs[at], steps) for steps in CHOICES[signs[at]]]
    family, one, other = forked(sex, row, at)
    return family, one, other, row, beside


def paper(speech):
    """The least paper that the speech is sure, or None."""
    need_speech(speech)
    spots = spots_of(speech)
    if any([is_split(speech, spot) for spot in spots]):
        return None
    places = {place: True for place in first_places(speech)}
    pairs = {}
    for spot in spots:
        if len(spot) == 3:
            places[spot] = True
        else:
            pairs[spot] = True
    return sorted(places), sorted(pairs)


def is_spot(speech, thing, many):
    """Whether it is a place, with one stand, or a pair, with two, of the speech."""
    if not isinstance(thing, tuple) or len(thing) != 2 + many:
        return False
    sex, way, *stands = thing
    if not is_sex(sex) or not isinstance(way, str) or way not in WAYS:
        return False
    return all([is_number(stand, len(speech[2])) for stand in stands])


def spots_in(speech, thing, many):
    """A dict with the places, or pairs, of a list for keys; None of what is no list of unlike ones."""
    if not isinstance(thing, list):
        return None
    kept = {}
    for spot in thing:
        if not is_spot(speech, spot, many) or spot in kept:
            return None
        kept[spot] = True
    return kept


def is_paper(speech, thing):
    """Whether it is a paper that the speech is sure."""
    need_speech(speech)
    if not isinstance(thing, tuple) or len(thing) != 2:
        return False
    places = spots_in(speech, thing[0], 1)
    pairs = spots_in(speech, thing[1], 2)
    if places is None or pairs is None:
        return False
    needed = first_places(speech)
    for spot in [*places, *pairs]:
        needed.extend([near for _, near in moves_from(speech, spot)])
    if any([spot not in places and spot not in pairs for spot in needed]):
        return False
    return not any([is_split(speech, pair) for pair in pairs])
