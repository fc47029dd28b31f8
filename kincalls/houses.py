"""Houses: a speech and a family that grows by deeds, each of which can be undone."""

from kincalls.errors import Full, NoDeed, NoName, NoParent, Taken
from kincalls.families import MOST_PERSONS, has_no_ring, is_name, need_name
from kincalls.speeches import names_called, need_speech, need_word, words_between
from kincalls.steps import need_sex


def sex_among(persons, thing):
    """The sex of the person of this name, or None if it is the name of none of them."""
    if not isinstance(thing, str):
        return None
    return {person[0]: person[1] for person in persons}.get(thing)


def need_parent(persons, thing, sex):
    """Refuse what is neither None nor the name of a person of this sex."""
    if thing is not None and sex_among(persons, thing) != sex:
        raise NoParent("this is not the name of one who can be such a parent")


def with_parent(family, name, parent):
    """The family in which the parent of this name has been found."""
    at = [person[0] for person in family].index(name)
    sex = sex_among(family[:at], parent)
    if sex is None:
        raise NoParent("this is not the name of one born ahead")
    _, own, father, mother = family[at]
    if (father if sex == "he" else mother) is not None:
        raise NoParent("such a parent is told already")
    parents = (parent, mother) if sex == "he" else (father, parent)
    return (*family[:at], (name, own, *parents), *family[at + 1:])


class House:
    """A speech, a family, and how both stood ahead of each deed."""

    def __init__(self, speech):
        need_speech(speech)
        self._family = ()
        self._speech = speech
        self._past = []

    def __len__(self):
        """How many persons there are."""
        return len(self._family)

    def _become(self, family, speech):
        """Do a deed: keep how all stood, and let it stand as told."""
        self._past.append((self._family, self._speech))
        self._family = family
        self._speech = speech

    def born(self, name, sex, father=None, mother=None):
        """A person is born."""
        if not is_name(name):
            raise NoName("this is no name")
        if sex_among(self._family, name) is not None:
            raise Taken("one of this name is there")
        need_sex(sex)
        need_parent(self._family, father, "he")
        need_parent(self._family, mother, "she")
        if len(self._family) >= MOST_PERSONS:
            raise Full("there are 40 persons")
        self._become((*self._family, (name, sex, father, mother)), self._speech)

    def found(self, name, parent):
        """A father or a mother who was not told is found."""
        need_name(self._family, name)
        self._become(with_parent(self._family, name, parent), self._speech)

    def speak(self, speech):
        """Another speech is spoken."""
        need_speech(speech)
        self._become(self._family, speech)

    def undo(self):
        """The last deed that is not undone yet is as if it had not been."""
        if not self._past:
            raise NoDeed("there is no deed to undo")
        self._family, self._speech = self._past.pop()

    def family(self):
        """The family, an empty tuple without persons."""
        return self._family

    def speech(self):
        """The speech that is spoken."""
        return self._speech

    def called(self, one, other):
        """The rising list of the unlike words by which the one calls the other."""
        need_name(self._family, one)
        need_name(self._family, other)
        return words_between(self._family, self._speech, one, other)

    def who(self, one, word):
        """The rising list of the names of all others whom the one calls by the word."""
        need_name(self._family, one)
        need_word(word)
        return names_called(self._family, self._speech, one, word)

    def plain(self):
        """Whether the family has no ring."""
        return has_no_ring(self._family)

    def twin(self):
        """A house that stands just so, with all that can be undone."""
        house = House(self._speech)
        house._family = self._family
        house._past = list(self._past)
        return house
