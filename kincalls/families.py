"""Families, their couples, and the rows of steps between their persons."""

from kincalls.errors import NoFamily, NoName, NotPlain

LETTERS = "abcdefghijklmnopqrstuvwxyz"
SEXES = ("he", "she")
MOST_LETTERS = 6
MOST_PERSONS = 40


def is_letters(thing, most):
    """Whether it is a text of up to so many letters a to z."""
    # The length is asked first, so that no long text is read through.
    if not isinstance(thing, str) or len(thing) > most:
        return False
    return all([sign in LETTERS for sign in thing])


def is_name(thing):
    """Whether it is a name: a text of 1 to 6 letters."""
    return is_letters(thing, MOST_LETTERS) and thing != ""


def is_sex(thing):
    """Whether it is one of the two sexes."""
    return isinstance(thing, str) and thing in SEXES


def is_person(thing):
    """Whether it is a person, as far as that can be seen without the family."""
    if not isinstance(thing, tuple) or len(thing) != 4:
        return False
    name, sex, father, mother = thing
    if not is_name(name) or not is_sex(sex):
        return False
    return all([parent is None or is_name(parent) for parent in (father, mother)])


def is_family(thing):
    """Whether it is a family."""
    if not isinstance(thing, tuple) or not 1 <= len(thing) <= MOST_PERSONS:
        return False
    sexes = {}
    for person in thing:
        if not is_person(person):
            return False
        name, sex, father, mother = person
        if name in sexes:
            return False
        # Only who was told ahead has a sex here yet.
        if father is not None and sexes.get(father) != "he":
            return False
        if mother is not None and sexes.get(mother) != "she":
            return False
        sexes[name] = sex
    return True


def need_family(thing):
    """Refuse what is no family."""
    if not is_family(thing):
        raise NoFamily("this is no family")


def need_name(family, thing):
    """Refuse what is not the name of a person of the family."""
    if not isinstance(thing, str) or thing not in [person[0] for person in family]:
        raise NoName("this is not the name of a person of the family")


def couple_list(family):
    """The couples, as they are told, of a family of any size."""
    children = {}
    for name, _, father, mother in family:
        if father is not None or mother is not None:
            children.setdefault((father or "", mother or ""), []).append(name)
    return sorted([(father, mother, tuple(names)) for (father, mother), names in children.items()])


def couples(family):
    """The rising list of the family's couples: (father, mother, children)."""
    need_family(family)
    return couple_list(family)


def has_no_ring(family):
    """Whether a family of any size is plain."""
    groups = {person[0]: person[0] for person in family}
    for father, mother, children in couple_list(family):
        met = [groups[name] for name in (father, mother, *children) if name != ""]
        # Two of one group hang together by the couples gone through already;
        # this couple ties them a second time, and so closes a ring.
        if len(set(met)) < len(met):
            return False
        for name in list(groups):
            if groups[name] in met:
                groups[name] = met[0]
    return True


def is_plain(family):
    """Whether the family has no ring."""
    need_family(family)
    return has_no_ring(family)


def ways_of(family):
    """For each name all steps that can be taken there, as (step, name come to)."""
    ways = {person[0]: [] for person in family}
    for name, sex, father, mother in family:
        down = "s" if sex == "he" else "d"
        for up, parent in (("f", father), ("m", mother)):
            if parent is not None:
                ways[name].append((up, parent))
                ways[parent].append((down, name))
    return ways


def distances(ways, one):
    """For each name to which a row leads from the one, the nearest ones first, its steps."""
    far = {one: 0}
    edge = [one]
    while edge:
        beyond = []
        for name in edge:
            for _, near in ways[name]:
                if near not in far:
                    far[near] = far[name] + 1
                    beyond.append(near)
        edge = beyond
    return far


def rows_on(ways, one, other):
    """The rising list of all rows from the one to the other."""
    # For each step there is one back, so these are the steps to the other, too.
    far = distances(ways, other)
    if one not in far:
        return []
    found = {one: [""]}
    for _ in range(far[one]):
        longer = {}
        for name, texts in found.items():
            for step, near in ways[name]:
                if far[near] < far[name]:
                    # Several sons are reached by one text: it is kept once.
                    told = longer.setdefault(near, {})
                    for text in texts:
                        told[text + step] = True
        found = {name: list(kept) for name, kept in longer.items()}
    return sorted(found[other])


def rows(family, one, other):
    """The rising list of all rows between two persons of a plain family."""
    need_family(family)
    if not has_no_ring(family):
        raise NotPlain("this family has a ring")
    need_name(family, one)
    need_name(family, other)
    return rows_on(ways_of(family), one, other)
