"""Speeches that are sure, that are not, and that lead rows in many ways."""

from tests import slow

# Five stands back to oneself: by generations, up or down, round and round.
GENERATIONS = (0, 0, tuple(
    (word, (at + 4) % 5, (at + 4) % 5, (at + 1) % 5, (at + 1) % 5)
    for at, word in enumerate(("same", "child", "gchild", "gparent", "parent"))
))

# By one's sex alone: 0 to 3 a he, 4 to 7 a she, and generations, four of them.
SEXED = (0, 4, tuple(
    (word, (at + 3) % 4, 4 + (at + 3) % 4, (at + 1) % 4, 4 + (at + 1) % 4)
    for at, word in enumerate(("bro", "son", "", "dad", "sis", "girl", "", "mum"))
))

# From a he `s` leads to 2, from where `f` would lead to an odd word, `d` does not;
# but just behind a step down from a he no `f` is gone, and she begins on stand 1.
STRAIGHT_ONLY = (0, 1, (
    ("he", 5, 5, 2, 6),
    ("she", 5, 5, 3, 3),
    ("child", 4, 5, 5, 5),
    ("child", 5, 4, 5, 5),
    ("never", 4, 4, 4, 4),
    ("kin", 5, 5, 5, 5),
    ("child", 5, 5, 5, 5),
))

# Behind `fs` and `ms` stand 3 and 4, told apart by `f` alone; but full siblings
# have the parents behind them already.
BEHIND_BOTH = (0, 0, (
    ("me", 1, 2, 7, 7),
    ("up", 7, 7, 3, 3),
    ("up", 7, 7, 4, 4),
    ("sib", 5, 7, 7, 7),
    ("sib", 6, 7, 7, 7),
    ("one", 7, 7, 7, 7),
    ("two", 7, 7, 7, 7),
    ("far", 7, 7, 7, 7),
))

# Three steps up the father's and the mother's son have unlike words: 7 persons.
FAR_OFF = (0, 0, (
    ("up", 1, 1, 7, 7),
    ("up", 2, 2, 7, 7),
    ("up", 3, 3, 7, 7),
    ("up", 4, 5, 7, 7),
    ("up", 7, 7, 6, 7),
    ("up", 7, 7, 7, 7),
    ("odd", 7, 7, 7, 7),
    ("far", 7, 7, 7, 7),
))

# The sons of a full brother's son have unlike words, nobody nearer: 6 persons.
LATE = (0, 0, (
    ("me", 1, 2, 7, 7),
    ("up", 7, 7, 3, 3),
    ("up", 7, 7, 4, 4),
    ("sib", 7, 7, 5, 7),
    ("sib", 7, 7, 6, 7),
    ("nib", 7, 7, 0, 7),
    ("nib", 7, 7, 7, 7),
    ("far", 7, 7, 7, 7),
))

SURE = (GENERATIONS, SEXED, STRAIGHT_ONLY, BEHIND_BOTH)
NOT_SURE = (FAR_OFF, LATE)

# Sure speeches with just 3000 tuples (sex, way, stand, leading).
ENDS_3000 = (
    (0, 5, (
        ("a", 4, 4, 1, 1), ("b", 3, 3, 2, 2), ("c", 5, 5, 3, 3), ("d", 6, 6, 5, 5),
        ("e", 0, 0, 0, 0), ("f", 6, 6, 2, 2), ("g", 0, 0, 1, 1),
    )),
    (2, 4, (
        ("a", 0, 0, 1, 1), ("a", 2, 0, 2, 1), ("a", 1, 3, 3, 2), ("a", 2, 3, 3, 3),
        ("a", 3, 4, 4, 4), ("f", 6, 5, 6, 6), ("g", 7, 7, 6, 5), ("h", 7, 7, 7, 7),
    )),
)

# With 3001: of the first one both empty rows end where no other row does, of the
# second one only one of them.
ENDS_3001 = (
    (3, 1, (
        ("a", 4, 4, 5, 5), ("b", 6, 6, 2, 2), ("c", 6, 6, 6, 6), ("d", 1, 1, 3, 3),
        ("e", 2, 2, 2, 2), ("f", 6, 6, 1, 1), ("g", 0, 0, 5, 5),
    )),
    (1, 0, (
        ("a", 2, 2, 3, 3), ("b", 0, 0, 4, 4), ("c", 0, 0, 1, 1), ("d", 1, 1, 0, 0),
        ("e", 1, 1, 2, 2),
    )),
)

# With tens of thousands of them, and more.
ENDS_MANY = (0, 1, tuple(
    ("a", (at + 1) % 8, (1, 0, 2, 3, 4, 5, 6, 7)[at], (0, 0, 2, 3, 4, 5, 6, 7)[at], (at + 3) % 8)
    for at in range(8)
))


def speech_by_rows(odd, sex, beyond="far"):
    """A speech with an odd word behind just one row of two steps from one of this sex."""
    stands = [[beyond, 4, 4, 4, 4] for _ in range(5)]
    first = 0 if sex == "he" else 1
    stands[first]["_fmsd".index(odd[0])] = 2
    stands[2]["_fmsd".index(odd[1])] = 3
    stands[3][0] = "odd"
    return (0, 1, tuple(map(tuple, stands)))


def drawn_speech(rand, most=8):
    """A speech of up to so many stands, sure about as often as not."""
    many = rand.randint(1, most)
    stands = []
    for _ in range(many):
        up, down = rand.randrange(many), rand.randrange(many)
        stands.append([rand.choice(("a", "b", "c", "")), up, up, down, down])
    for _ in range(rand.choice((0, 1, 1, 2, 3, 6))):
        rand.choice(stands)[rand.randint(1, 4)] = rand.randrange(many)
    if rand.random() < 0.3:
        for stand in stands:
            stand[0] = "a"
        rand.choice(stands)[0] = "z"
    return (rand.randrange(many), rand.randrange(many), tuple(map(tuple, stands)))


def drawn_sure(rand, most=8):
    """A sure speech of up to so many stands."""
    speech = drawn_speech(rand, most)
    while not slow.is_sure(speech):
        speech = drawn_speech(rand, most)
    return speech


def drawn_not_sure(rand, most=8):
    """A speech of up to so many stands that is not sure."""
    speech = drawn_speech(rand, most)
    while slow.is_sure(speech):
        speech = drawn_speech(rand, most)
    return speech


def numbered_otherwise(rand, speech):
    """The same speech with its stands in another order."""
    he, she, stands = speech
    order = list(range(len(stands)))
    rand.shuffle(order)
    told = [None] * len(stands)
    for at, (word, *numbers) in enumerate(stands):
        told[order[at]] = (word, *(order[number] for number in numbers))
    return (order[he], order[she], tuple(told))
