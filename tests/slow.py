"""The document's words, followed as directly as can be, for the program to be held against."""


def couples(family):
    """The couples with their children, found by asking each pair of who may be one."""
    men = [person[0] for person in family if person[1] == "he"] + [None]
    women = [person[0] for person in family if person[1] == "she"] + [None]
    told = []
    for father in men:
        for mother in women:
            if (father, mother) == (None, None):
                continue
            children = tuple(p[0] for p in family if p[2:] == (father, mother))
            if children:
                told.append((father or "", mother or "", children))
    return sorted(told)


def has_ring(family):
    """Whether couples and persons by turns come round to the beginning."""
    groups = [{name for name in (f, m) + kids if name} for f, m, kids in couples(family)]

    def goes_round(path, between):
        for name in groups[path[-1]]:
            if name in between:
                continue
            for at, group in enumerate(groups):
                if name not in group or at == path[-1]:
                    continue
                if at == path[0] and len(path) > 1:
                    return True
                if at not in path and goes_round(path + [at], between + [name]):
                    return True
        return False

    return any(goes_round([at], []) for at in range(len(groups)))


def come_to(family, name, step):
    """All to whom one step leads from a person."""
    people = {person[0]: person for person in family}
    if step == "f":
        return {people[name][2]} - {None}
    if step == "m":
        return {people[name][3]} - {None}
    sex = "he" if step == "s" else "she"
    return {p[0] for p in family if p[1] == sex and name in p[2:]}


def rows(family, one, other):
    """All shortest texts of steps, found by trying every text, length by length."""
    ahead = {"": {one}}
    # Who is reached by fewer steps need not be gone through again.
    seen = {one}
    while ahead:
        there = sorted(row for row, names in ahead.items() if other in names)
        if there:
            return there
        longer = {}
        for row, names in ahead.items():
            for step in "fmsd":
                met = set()
                for name in names:
                    met |= come_to(family, name, step)
                if met - seen:
                    longer[row + step] = met - seen
        for names in longer.values():
            seen |= names
        ahead = longer
    return []


def word_of(speech, sex, row):
    """The word of a row, its stands gone through one by one."""
    he, she, stands = speech
    stand = {"he": he, "she": she}[sex]
    for step in row:
        _, f, m, s, d = stands[stand]
        stand = {"f": f, "m": m, "s": s, "d": d}[step]
    return stands[stand][0]


def called(family, speech, one, other):
    """The words of all rows between two persons."""
    sex = {person[0]: person[1] for person in family}[one]
    return sorted({word_of(speech, sex, row) for row in rows(family, one, other)})


def who(family, speech, one, word):
    """All others whom one calls by the word."""
    others = [person[0] for person in family if person[0] != one]
    return sorted(name for name in others if word in called(family, speech, one, name))


def is_straight(sex, row):
    """Whether nobody is come back to who is sure to be the one just left."""
    stood, sexes = sex, []
    for step in row:
        sexes.append(stood)
        stood = {"f": "he", "s": "he", "m": "she", "d": "she"}[step]
    for before, ahead, step in zip(sexes, row, row[1:]):
        if ahead in "sd" and (before, step) in (("he", "f"), ("she", "m")):
            return False
    return True


def is_family_of_any_size(thing):
    """Whether it is a family, but for how many persons there may be."""
    sexes = {None: None}
    for name, sex, father, mother in thing:
        fits = 1 <= len(name) <= 6 and name.isascii() and name.islower() and name.isalpha()
        if not fits or name in sexes or sex not in ("he", "she"):
            return False
        if father not in sexes or mother not in sexes:
            return False
        if sexes[father] == "she" or sexes[mother] == "he":
            return False
        sexes[name] = sex
    return type(thing) is tuple and all(type(person) is tuple for person in thing)
