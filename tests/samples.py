"""Families, rows, speeches and things of any kind for the tests to go over."""

import random

from tests import slow

ANY = "fmsd"
LETTERS = "abcdefghijklmnopqrstuvwxyz"

# Grandparents pa and ma; their children ann and bob; bob and his wife eve have
# two sons and a daughter; bob and kit have a son; ann alone has a daughter.
HOUSE = (
    ("pa", "he", None, None),
    ("ma", "she", None, None),
    ("ann", "she", "pa", "ma"),
    ("bob", "he", "pa", "ma"),
    ("eve", "she", None, None),
    ("kit", "she", None, None),
    ("cal", "he", "bob", "eve"),
    ("dan", "he", "bob", "eve"),
    ("fay", "she", "bob", "eve"),
    ("gus", "he", "bob", "kit"),
    ("hel", "she", None, "ann"),
    ("zed", "he", None, None),
)

# Brother and sister have a child: pa and ma, al, al and bea, bea make a ring.
RING = (
    ("pa", "he", None, None),
    ("ma", "she", None, None),
    ("al", "he", "pa", "ma"),
    ("bea", "she", "pa", "ma"),
    ("cyd", "she", "al", "bea"),
    ("dot", "she", "al", None),
)

# Stands: 0 self, 1 parent, 2 child, 3 sibling, 4 further off, which is silence.
FAR = (4, 4, 4, 4)
SPEECH = (
    0,
    0,
    (
        ("me", 1, 1, 2, 2),
        ("old", 4, 4, 3, 3),
        ("kid", 4, 4, 4, 4),
        ("sib", 4, 4, 4, 4),
        ("",) + FAR,
    ),
)

# Father's side and mother's side have words of their own; he and she begin apart.
SIDED = (
    0,
    1,
    (
        ("ego", 2, 3, 6, 6),
        ("ega", 2, 3, 7, 7),
        ("da", 4, 4, 5, 5),
        ("mum", 4, 4, 4, 5),
        ("elder", 4, 4, 4, 4),
        ("peer", 5, 5, 5, 5),
        ("heir", 4, 6, 6, 6),
        ("child", 7, 7, 7, 7),
    ),
)


def family_at_random(rand, many, founders=0.35, bred=0.75):
    """A family of so many persons, drawn; more often than not with rings when it is large."""
    persons = []
    for at in range(many):
        name = LETTERS[at % 26] + "x" * (at // 26)
        men = [person[0] for person in persons if person[1] == "he"]
        women = [person[0] for person in persons if person[1] == "she"]
        father = mother = None
        if rand.random() > founders:
            if men and rand.random() < bred:
                father = rand.choice(men)
            if women and rand.random() < bred:
                mother = rand.choice(women)
        persons.append((name, rand.choice(("he", "she")), father, mother))
    return tuple(persons)


def plain_family_at_random(rand, many):
    """A family of up to so many persons without a ring, grown couple by couple."""
    # Of each person: depth, sex, and the places of father and mother.
    grown = [[0, rand.choice(("he", "she")), None, None]]
    # A couple brings two founders and three children at the most.
    while len(grown) + 5 <= many:
        at = rand.randrange(len(grown))
        depth, sex, *parents = grown[at]
        kind = rand.choice(("wed", "wed", "alone", "above", "above", "founder"))
        if kind == "founder":
            grown.append([depth, sex, None, None])
            continue
        couple = {"he": None, "she": None}
        if kind == "above":
            if parents != [None, None]:
                continue
            founders = rand.choice((["he"], ["she"], ["he", "she"], ["he", "she"]))
        else:
            couple[sex] = at
            depth += 1
            founders = [{"he": "she", "she": "he"}[sex]] if kind == "wed" else []
        for founder in founders:
            couple[founder] = len(grown)
            grown.append([depth - 1, founder, None, None])
        if kind == "above":
            grown[at][2:] = couple.values()
        for _ in range(rand.choice((1, 2, 2, 3))):
            grown.append([depth, rand.choice(("he", "she")), *couple.values()])
    return named(rand, grown)


def named(rand, grown):
    """A family of persons told by depth, sex, and the places of their parents."""
    names = [a + b for a in LETTERS[:10] for b in ("", "o", "olle")]
    rand.shuffle(names)
    names = dict(enumerate(names))
    order = sorted(range(len(grown)), key=lambda at: grown[at][0])
    return tuple((names[at], grown[at][1], *map(names.get, grown[at][2:])) for at in order)


def speech_at_random(rand, many=None):
    """A speech of so many stands."""
    many = many or rand.randint(1, 8)
    stands = []
    for _ in range(many):
        word = "".join(rand.choice("abc") for _ in range(rand.choice((0, 1, 1, 2, 8))))
        stands.append((word,) + tuple(rand.randrange(many) for _ in ANY))
    return (rand.randrange(many), rand.randrange(many), tuple(stands))


def row_at_random(rand, length):
    """A row of so many steps, straight or not."""
    return "".join(rand.choice(ANY) for _ in range(length))


def straight_at_random(rand, sex, length):
    """A straight row of so many steps."""
    row = ""
    while len(row) < length:
        step = rand.choice(ANY)
        if slow.is_straight(sex, row + step):
            row += step
    return row


def drawn(seed):
    """A source of draws that is the same in every run."""
    return random.Random(seed)


def nested(depth):
    """A tuple within a tuple and so on, so many deep."""
    thing = ()
    for _ in range(depth - 1):
        thing = (thing,)
    return thing


def any_things():
    """Things of many kinds, none of them a name, a sex, a word, a row, a family or a speech."""
    return [
        None,
        True,
        False,
        0,
        1,
        -1,
        10 ** 30,
        b"",
        b"he",
        b"fm",
        "HE",
        "\u00e9",
        "a b",
        "a\n",
        "\ud800",
        "x" * 100000,
        (),
        ("he",),
        ("f", "m"),
        (None, None, None, None),
        (0, 0, ()),
        (0, 0, []),
        [],
        ["he"],
        [[]],
        {},
        {"he": "she"},
        {0: [1, {2: (3,)}]},
        set(),
        {1, 2},
        frozenset(),
        object(),
        len,
        int,
        range(3),
        nested(40),
        [nested(39)],
        [HOUSE],
        list(HOUSE),
        {person[0]: person for person in HOUSE},
        list(SPEECH),
    ]
