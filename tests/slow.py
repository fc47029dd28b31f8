"""The document's words, followed as directly as can be, for the program to be held against."""


def couples(family):
    """The couples with their children, found by asking each pair of who may be one."""
    men = [person[0] for person in family if person[1] == "he"] + [None]
    women = [person[0] for person in family if person[1] == "she"] + [None]
    told = []
    for father in men:
        for mother in women:
            if (father, mother) == (None, None):
                continue
            children = tuple(p[0] for p in family if p[2:] == (father, mother))
            if children:
                told.append((father or "", mother or "", children))
    return sorted(told)


def has_ring(family):
    """Whether couples and persons by turns come round to the beginning."""
    groups = [{name for name in (f, m) + kids if name} for f, m, kids in couples(family)]

    def goes_round(path, between):
        for name in groups[path[-1]]:
            if name in between:
                continue
            for at, group in enumerate(groups):
                if name not in group or at == path[-1]:
                    continue
                if at == path[0] and len(path) > 1:
                    return True
                if at not in path and goes_round(path + [at], between + [name]):
                    return True
        return False

    return any(goes_round([at], []) for at in range(len(groups)))


def come_to(family, name, step):
    """All to whom one step leads from a person."""
    people = {person[0]: person for person in family}
    if step == "f":
        return {people[name][2]} - {None}
    if step == "m":
        return {people[name][3]} - {None}
    sex = "he" if step == "s" else "she"
    return {p[0] for p in family if p[1] == sex and name in p[2:]}


def rows(family, one, other):
    """All shortest texts of steps, found by trying every text, length by length."""
    ahead = {"": {one}}
    # Who is reached by fewer steps need not be gone through again.
    seen = {one}
    while ahead:
        there = sorted(row for row, names in ahead.items() if other in names)
        if there:
            return there
        longer = {}
        for row, names in ahead.items():
            for step in "fmsd":
                met = set()
                for name in names:
                    met |= come_to(family, name, step)
                if met - seen:
                    longer[row + step] = met - seen
        for names in longer.values():
            seen |= names
        ahead = longer
    return []


def chain_row(family, one, other):
    """The row of a chain with one person more than it has steps; None of what is no such thing."""
    if not is_family_of_any_size(family) or has_ring(family):
        return None
    between = rows(family, one, other)
    return between[0] if [len(row) + 1 for row in between] == [len(family)] else None


def word_of(speech, sex, row):
    """The word of a row, its stands gone through one by one."""
    he, she, stands = speech
    stand = {"he": he, "she": she}[sex]
    for step in row:
        _, f, m, s, d = stands[stand]
        stand = {"f": f, "m": m, "s": s, "d": d}[step]
    return stands[stand][0]


def called(family, speech, one, other):
    """The words of all rows between two persons."""
    sex = {person[0]: person[1] for person in family}[one]
    return sorted({word_of(speech, sex, row) for row in rows(family, one, other)})


def who(family, speech, one, word):
    """All others whom one calls by the word."""
    others = [person[0] for person in family if person[0] != one]
    return sorted(name for name in others if word in called(family, speech, one, name))


def is_straight(sex, row):
    """Whether nobody is come back to who is sure to be the one just left."""
    stood, sexes = sex, []
    for step in row:
        sexes.append(stood)
        stood = {"f": "he", "s": "he", "m": "she", "d": "she"}[step]
    for before, ahead, step in zip(sexes, row, row[1:]):
        if ahead in "sd" and (before, step) in (("he", "f"), ("she", "m")):
            return False
    return True


def is_family_of_any_size(thing):
    """Whether it is a family, but for how many persons there may be."""
    sexes = {None: None}
    for name, sex, father, mother in thing:
        fits = 1 <= len(name) <= 6 and name.isascii() and name.islower() and name.isalpha()
        if not fits or name in sexes or sex not in ("he", "she"):
            return False
        if father not in sexes or mother not in sexes:
            return False
        if sexes[father] == "she" or sexes[mother] == "he":
            return False
        sexes[name] = sex
    return type(thing) is tuple and all(type(person) is tuple for person in thing)


def end_of(sex, row):
    """The sex of whoever stands behind the row."""
    return {"f": "he", "s": "he", "m": "she", "d": "she"}[row[-1]] if row else sex


def way_of(sex, row):
    """How one came there behind the row."""
    return "free" if not row or row[-1] in "fm" else end_of(sex, row[:-1])


def stand_behind(speech, stand, row):
    """The stand to which the row leads from a stand."""
    for step in row:
        stand = speech[2][stand][1:]["fmsd".index(step)]
    return stand


def turned(sex, row):
    """The row from its other end, each step the other way round."""
    back = ""
    for at, step in enumerate(row):
        down, up = {"he": ("s", "f"), "she": ("d", "m")}[end_of(sex, row[:at])]
        back = (down if step in "fm" else up) + back
    return back


def leading(speech, sex, row):
    """For each stand the one to which the row leads, read from its other end."""
    back = turned(sex, row)
    return tuple(stand_behind(speech, at, back) for at in range(len(speech[2])))


def straight_rows(sex, most):
    """All straight rows of up to so many steps, the shorter ones first."""
    told = longest = [""]
    for _ in range(most):
        longest = [row + step for row in longest for step in "fmsd" if is_straight(sex, row + step)]
        told = told + longest
    return told


def small_families(many):
    """All families of so many persons, by the names a, b, and so on."""
    families = [()]
    for name in "abcdefgh"[:many]:
        longer = []
        for family in families:
            fathers = [None] + [person[0] for person in family if person[1] == "he"]
            mothers = [None] + [person[0] for person in family if person[1] == "she"]
            for sex in ("he", "she"):
                longer += [family + ((name, sex, f, m),) for f in fathers for m in mothers]
        families = longer
    return families


def forks(most):
    """How many persons it takes that just these rows, two or more, lead from a he or a she to another one."""
    told = {}
    for many in range(1, most + 1):
        for family in small_families(many):
            # Who does not hang together with the rest is in nobody's rows.
            if sum(parent is not None for person in family for parent in person[2:]) < many - 1:
                continue
            if has_ring(family):
                continue
            for one, sex, *_ in family:
                for other, *_ in family:
                    between = rows(family, one, other)
                    if len(between) > 1:
                        told.setdefault((sex, tuple(between)), many)
    return told


def steps_on(sex, way):
    """The steps that may be gone from a place."""
    barred = {"free": "", "he": "f", "she": "m", "both": "fm"}[way]
    return [step for step in "fmsd" if step not in barred]


def gone(speech, spot, step):
    """The place, or the pair, to which a step leads."""
    sex, _, *stands = spot
    way = "free" if step in "fm" else sex
    return (end_of(sex, step), way, *(stand_behind(speech, stand, step) for stand in stands))


def choices(speech, place):
    """The choices of a place."""
    sex, way, stand = place
    told = []
    if way == "free":
        told += [("he", "both", "fs", "ms"), ("she", "both", "fd", "md")]
    told += [("she", "free", "sm", "dm")] if sex == "he" else [("he", "free", "sf", "df")]
    return [
        (near, come, stand_behind(speech, stand, one), stand_behind(speech, stand, other))
        for near, come, one, other in told
    ]


def lacking(speech, places, pairs):
    """What places and pairs of a paper lack yet."""
    places_led = {("he", "free", speech[0]), ("she", "free", speech[1])}
    pairs_led = set()
    for place in places:
        places_led |= {gone(speech, place, step) for step in steps_on(*place[:2])}
        pairs_led |= set(choices(speech, place))
    for pair in pairs:
        pairs_led |= {gone(speech, pair, step) for step in steps_on(*pair[:2])}
    return places_led - set(places), pairs_led - set(pairs)


def grown(speech, places, pairs):
    """The least places and pairs with these among them that lack nothing."""
    more = lacking(speech, places, pairs)
    while more != (set(), set()):
        places, pairs = set(places) | more[0], set(pairs) | more[1]
        more = lacking(speech, places, pairs)
    return places, pairs


def words_alike(speech, pairs):
    """Whether the two stands of each pair have the same word."""
    return all(speech[2][one][0] == speech[2][other][0] for _, _, one, other in pairs)


def is_sure(speech):
    """Whether there is a paper."""
    return words_alike(speech, grown(speech, set(), set())[1])


def ends(speech):
    """For each (sex, way, stand, leading) of a straight row a shortest one, the empty ones too."""
    told = {}
    edge = [("he", ""), ("she", "")]
    while edge:
        longer = []
        for sex, row in edge:
            stand = stand_behind(speech, speech[0 if sex == "he" else 1], row)
            end = (end_of(sex, row), way_of(sex, row), stand, leading(speech, sex, row))
            if end not in told:
                told[end] = (sex, row)
                longer += [(sex, row + step) for step in "fmsd" if is_straight(sex, row + step)]
        edge = longer
    return told


def answers(speech):
    """For each (word, answer) how many steps a shortest row has that shows it."""
    told = {}
    for sex, row in ends(speech).values():
        for step in "fmsd":
            longer = row + step
            if is_straight(sex, longer):
                back = word_of(speech, end_of(sex, longer), turned(sex, longer))
                pair = (word_of(speech, sex, longer), back)
                told[pair] = min(told.get(pair, len(longer)), len(longer))
    return told
