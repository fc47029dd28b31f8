"""Rows of steps by themselves: straight rows, their chains, and rows turned round."""

from kincalls.errors import NoRow, NoSex
from kincalls.families import LETTERS, is_sex

STEPS = "fmsd"
UPWARD = "fm"
MOST_STEPS = 60


def is_row(thing):
    """Whether it is a text of up to 60 steps."""
    # The length is asked first, so that no long text is read through.
    if not isinstance(thing, str) or len(thing) > MOST_STEPS:
        return False
    return all([sign in STEPS for sign in thing])


def need_sex(thing):
    """Refuse what is no sex."""
    if not is_sex(thing):
        raise NoSex("this is neither he nor she")


def need_row(thing):
    """Refuse what is no row of steps."""
    if not is_row(thing):
        raise NoRow("this is no text of up to 60 steps")


def sex_behind(step):
    """The sex of whoever stands behind a step."""
    return "he" if step in "fs" else "she"


def sexes_along(sex, row):
    """The sexes of all who stand along the row, the first one's ahead of it."""
    return [sex] + [sex_behind(step) for step in row]


def back_step(sex, step):
    """The step that leads back to one of this sex from where this step led."""
    if step in UPWARD:
        return "s" if sex == "he" else "d"
    return "f" if sex == "he" else "m"


def goes_straight(sex, row):
    """Whether a row of any length is straight."""
    sexes = sexes_along(sex, row)
    for at in range(1, len(row)):
        gone = row[at - 1]
        if gone not in UPWARD and row[at] == back_step(sexes[at - 1], gone):
            return False
    return True


def is_straight(sex, row):
    """Whether the row is straight from one of this sex."""
    need_sex(sex)
    need_row(row)
    return goes_straight(sex, row)


def turned_row(sex, row):
    """A row of any length read from its other end, each step the other way round."""
    backs = [back_step(stood, step) for stood, step in zip(sexes_along(sex, row), row)]
    return "".join(reversed(backs))


def turned(sex, row):
    """The row read from its other end, each step the other way round."""
    need_sex(sex)
    need_row(row)
    return turned_row(sex, row)


def name_of(number):
    """A name for each number from 0 on, unlike ones for unlike numbers."""
    name = LETTERS[number % 26]
    rest = number // 26
    while rest > 0:
        name = LETTERS[rest % 26] + name
        rest = rest // 26
    return name


def chain_persons(sex, row):
    """The persons along a straight row, in its order: (name, sex, father, mother)."""
    sexes = sexes_along(sex, row)
    names = [name_of(at) for at in range(len(sexes))]
    fathers = [None for _ in names]
    mothers = [None for _ in names]
    for at, step in enumerate(row):
        if step in UPWARD:
            child, parent = at, at + 1
        else:
            child, parent = at + 1, at
        if sexes[parent] == "he":
            fathers[child] = names[parent]
        else:
            mothers[child] = names[parent]
    return list(zip(names, sexes, fathers, mothers))


def depths_along(row):
    """How far below the first one each one along the row stands."""
    depths = [0]
    for step in row:
        depths.append(depths[-1] - 1 if step in UPWARD else depths[-1] + 1)
    return depths


def in_births(persons, depths):
    """The family of these persons, told by how far down each of them stands."""
    # Parents stand higher than their children, so who stands higher is told ahead.
    births = sorted([(depth, at) for at, depth in enumerate(depths)])
    return tuple([persons[at] for _, at in births])


def chain_of(sex, row):
    """The chain of a straight row of any length."""
    persons = chain_persons(sex, row)
    return in_births(persons, depths_along(row)), persons[0][0], persons[-1][0]


def chain(sex, row):
    """The chain of a sex and a straight row: (family, one, other)."""
    need_sex(sex)
    need_row(row)
    if not goes_straight(sex, row):
        raise NoRow("this row is not straight")
    return chain_of(sex, row)
