"""Point 5: straight rows, their chains, and rows turned round."""

import itertools
import unittest

from kincalls.errors import NoRow, NoSex
from kincalls.families import is_family, is_plain, rows
from kincalls.steps import chain, is_straight, turned
from tests import samples, slow

SEXES = ("he", "she")
SHORT = ["".join(steps) for many in range(6) for steps in itertools.product("fmsd", repeat=many)]
NO_ROWS = [
    "x", "F", "f ", " ", "f\n", "\n", "fmsdx", "xf", "f" * 61, "f" * 1000, "fm" * 100000, b"", b"f",
]
NO_SEXES = ["", "h", "He", "him", "hee", "he ", "he\n", "e", "she she", b"she"]


class IsStraight(unittest.TestCase):
    def told(self, sex, row, expected):
        self.assertIs(is_straight(sex, row), expected, (sex, row))

    def test_down_from_a_he_and_up_to_the_father(self):
        for row, he, she in (
            ("sf", False, True), ("df", False, True), ("sm", True, False), ("dm", True, False),
        ):
            self.told("he", row, he)
            self.told("she", row, she)

    def test_behind_a_step_it_is_that_ones_sex_that_counts(self):
        for sex in SEXES:
            for behind, straight, bent in (("f", "m", "f"), ("m", "f", "m")):
                for down in "sd":
                    self.told(sex, behind + down + straight, True)
                    self.told(sex, behind + down + bent, False)
        self.told("she", "ssf", False)
        self.told("she", "ssm", True)
        self.told("he", "ddf", True)
        self.told("he", "ddm", False)

    def test_up_and_down_is_straight(self):
        for sex in SEXES:
            for row in ("fs", "fd", "ms", "md", "ff", "mm", "fm", "ss", "dd", "sd"):
                self.told(sex, row, True)

    def test_the_empty_row_and_one_step(self):
        for sex in SEXES:
            for row in ("", "f", "m", "s", "d"):
                self.told(sex, row, True)

    def test_up_to_60_steps(self):
        for sex in SEXES:
            self.told(sex, "f" * 60, True)
            self.told(sex, "d" * 60, True)
            self.told(sex, "fsmd" * 15, True)
            self.told(sex, "fdsf" * 15, True)
            self.told(sex, "fsmdm" * 12, False)
            self.told(sex, "f" * 58 + "df", False)

    def test_all_short_rows(self):
        for sex in SEXES:
            for row in SHORT:
                self.told(sex, row, slow.is_straight(sex, row))


class Chain(unittest.TestCase):
    def holds(self, sex, row):
        """What is told is a chain, and the row the only one between its ends."""
        told = chain(sex, row)
        self.assertEqual([type(part) for part in told], [tuple, str, str])
        family, one, other = told
        self.assertIs(type(told), tuple)
        self.assertTrue(slow.is_family_of_any_size(family), told)
        self.assertEqual(len(family), len(row) + 1)
        sexes = {person[0]: person[1] for person in family}
        self.assertEqual(sexes[one], sex)
        # As many ties as steps: then the row goes by each person, and nothing else is told.
        self.assertEqual(sum((p[2] is not None) + (p[3] is not None) for p in family), len(row))
        self.assertEqual(slow.rows(family, one, other), [row])
        if len(family) <= 40:
            self.assertIs(is_family(family), True)
            self.assertIs(is_plain(family), True)
            self.assertEqual(rows(family, one, other), [row])
            self.assertEqual(rows(family, other, one), [turned(sex, row)])

    def test_the_empty_row(self):
        for sex in SEXES:
            family, one, other = chain(sex, "")
            self.assertEqual(family, ((one, sex, None, None),))
            self.assertEqual(other, one)
            self.holds(sex, "")

    def test_one_step(self):
        (child, father), one, other = self.sorted_chain("she", "f")
        self.assertEqual(father, (other, "he", None, None))
        self.assertEqual(child, (one, "she", other, None))
        (child, mother), one, other = self.sorted_chain("he", "m")
        self.assertEqual(mother, (other, "she", None, None))
        self.assertEqual(child, (one, "he", None, other))
        (child, father), one, other = self.sorted_chain("he", "d")
        self.assertEqual(father, (one, "he", None, None))
        self.assertEqual(child, (other, "she", one, None))

    def sorted_chain(self, sex, row):
        """A chain with its persons from the last born to the first."""
        family, one, other = chain(sex, row)
        return family[::-1], one, other

    def test_all_short_straight_rows(self):
        for sex in SEXES:
            for row in SHORT:
                if slow.is_straight(sex, row):
                    self.holds(sex, row)

    def test_long_rows(self):
        rand = samples.drawn(6)
        for length in (7, 12, 25, 26, 27, 38, 39, 40, 41, 59, 60):
            for sex in SEXES:
                for _ in range(5):
                    self.holds(sex, samples.straight_at_random(rand, sex, length))
        for row in ("f" * 60, "s" * 60, "fdms" * 15, "fsm" * 20):
            for sex in SEXES:
                self.holds(sex, row)

    def test_equal_things_give_equal_answers(self):
        self.assertEqual(chain("he", "fsm"), chain("he", "".join(["f", "sm"])))

    def test_a_row_that_is_not_straight_is_refused(self):
        for sex in SEXES:
            for row in SHORT + ["f" * 58 + "df"]:
                if not slow.is_straight(sex, row):
                    with self.assertRaises(NoRow):
                        chain(sex, row)


class Turned(unittest.TestCase):
    def test_each_step(self):
        for sex, step, back in (
            ("he", "f", "s"), ("he", "m", "s"), ("she", "f", "d"), ("she", "m", "d"),
            ("he", "s", "f"), ("he", "d", "f"), ("she", "s", "m"), ("she", "d", "m"),
        ):
            self.assertEqual(turned(sex, step), back)

    def test_the_empty_row(self):
        self.assertEqual((turned("he", ""), turned("she", "")), ("", ""))

    def test_rows(self):
        self.assertEqual(turned("he", "fmd"), "mss")
        self.assertEqual(turned("she", "ffs"), "fsd")
        self.assertEqual(turned("she", "sfd"), "fsm")
        self.assertEqual(turned("he", "sm"), "sf")

    def test_rows_that_are_not_straight(self):
        self.assertEqual(turned("he", "sf"), "sf")
        self.assertEqual(turned("he", "df"), "df")
        self.assertEqual(turned("she", "sm"), "sm")
        self.assertEqual(turned("she", "fdf"), "dfd")

    def test_each_row_by_its_steps(self):
        for sex in SEXES:
            for row in SHORT:
                backs, stood = "", sex
                for step in row:
                    backs = turned(stood, step) + backs
                    stood = "he" if step in "fs" else "she"
                self.assertEqual(turned(sex, row), backs)
                self.assertEqual(turned(stood, backs), row)

    def test_60_steps(self):
        self.assertEqual(turned("she", "f" * 60), "s" * 59 + "d")
        self.assertEqual(turned("he", "d" * 60), "m" * 59 + "f")


class Refusals(unittest.TestCase):
    CALLS = (is_straight, chain, turned)

    def test_no_sex_comes_first(self):
        for sex in samples.any_things() + NO_SEXES:
            for row in ("", "f", "x", None, "f" * 61, [], "sf"):
                for call in self.CALLS:
                    with self.assertRaises(NoSex):
                        call(sex, row)

    def test_no_row(self):
        for row in samples.any_things() + NO_ROWS:
            for sex in SEXES:
                for call in self.CALLS:
                    with self.assertRaises(NoRow):
                        call(sex, row)

    def test_kinds(self):
        self.assertIs(type(turned("he", "fm")), str)
