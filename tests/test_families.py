"""Points 2 and 3: what a family is, its couples, and whether it is plain."""

import unittest

from kincalls.errors import NoFamily
from kincalls.families import couples, is_family, is_plain
from tests import samples, slow

HE = ("pa", "he", None, None)
SHE = ("ma", "she", None, None)


def founders(many):
    """A family of so many persons without parents."""
    return samples.family_at_random(samples.drawn(1), many, founders=1)


def with_first(*fields):
    """A family whose one person has these fields."""
    return (tuple(fields),)


class IsFamily(unittest.TestCase):
    def yes(self, thing):
        self.assertIs(is_family(thing), True, thing)

    def no(self, thing):
        self.assertIs(is_family(thing), False, thing)

    def test_ordinary_families(self):
        for family in (samples.HOUSE, samples.RING, (HE,), (SHE,), (SHE, HE)):
            self.yes(family)

    def test_families_drawn(self):
        rand = samples.drawn(2)
        for _ in range(300):
            self.yes(samples.family_at_random(rand, rand.randint(1, 40)))

    def test_from_1_to_40_persons(self):
        self.no(())
        for many in (1, 2, 39, 40):
            self.yes(founders(many))
        for many in (41, 42, 1000):
            self.no(founders(many))

    def test_names_have_1_to_6_letters(self):
        for name in ("a", "z", "ab", "abcde", "abcdef", "he", "she"):
            self.yes(with_first(name, "he", None, None))
        for name in ("", "abcdefg", "x" * 1000):
            self.no(with_first(name, "he", None, None))

    def test_names_have_letters_a_to_z_alone(self):
        for sign in "AZ09 _-\n\t`{\x00\u00e9\u0430\uff41\u00df\ud800":
            self.no(with_first(sign, "he", None, None))
            self.no(with_first("ab" + sign, "he", None, None))
            self.no(with_first(sign + "ab", "he", None, None))

    def test_names_are_unlike(self):
        self.no((HE, HE))
        self.no((HE, SHE, ("pa", "she", None, None)))
        self.no((HE, ("pa", "he", "pa", None)))

    def test_the_sex_is_he_or_she(self):
        for sex in ("", "h", "He", "HE", "him", "hes", "shee", "e", "he ", "he\n", None, 0, 1, b"he"):
            self.no(with_first("pa", sex, None, None))

    def test_a_father_is_a_he_and_a_mother_a_she(self):
        self.yes((HE, SHE, ("al", "he", "pa", "ma")))
        self.yes((HE, SHE, ("al", "he", "pa", None)))
        self.yes((HE, SHE, ("al", "she", None, "ma")))
        self.no((HE, SHE, ("al", "he", "ma", None)))
        self.no((HE, SHE, ("al", "he", None, "pa")))
        self.no((HE, SHE, ("al", "he", "ma", "pa")))
        self.no((HE, SHE, ("al", "he", "pa", "pa")))
        self.no((HE, SHE, ("al", "he", "ma", "ma")))

    def test_parents_are_told_ahead_of_the_child(self):
        child, half = ("al", "he", "pa", "ma"), ("al", "he", "pa", None)
        self.yes((HE, half))
        self.no((half, HE))
        self.yes((HE, SHE, child))
        self.yes((SHE, HE, child))
        self.no((HE, child, SHE))
        self.no((SHE, child, HE))
        self.no((child, HE, SHE))

    def test_nobody_is_the_own_parent(self):
        self.no(with_first("pa", "he", "pa", None))
        self.no(with_first("ma", "she", None, "ma"))

    def test_parents_are_there(self):
        self.no((HE, SHE, ("al", "he", "paul", "ma")))
        self.no((HE, SHE, ("al", "he", "pa", "mary")))

    def test_parents_are_names_or_none(self):
        for parent in samples.any_things() + [""]:
            if parent is not None:
                self.no((HE, SHE, ("al", "he", parent, "ma")))
                self.no((HE, SHE, ("al", "he", "pa", parent)))
                self.no((HE, SHE, ("al", "he", parent, None)))
                self.no((HE, SHE, ("al", "he", None, parent)))

    def test_a_person_is_a_tuple_of_four(self):
        for person in (HE[:3], HE + (None,), (), HE[:1], list(HE), "pahe", None, (HE,)):
            self.no((person,))
            self.no((SHE, person))
            self.no((person, SHE))

    def test_a_family_is_a_tuple(self):
        self.no([HE, SHE])
        self.no({HE, SHE})
        self.no({HE: SHE})
        self.no(HE)
        self.no(iter((HE, SHE)))

    def test_things_of_any_kind(self):
        for thing in samples.any_things():
            self.no(thing)
            self.no((thing,))
            self.no((HE, thing))
            self.no(with_first(thing, "he", None, None))
            self.no((HE, ("al", thing, "pa", None)))


class Couples(unittest.TestCase):
    def test_of_two_and_of_one(self):
        self.assertEqual(couples(samples.HOUSE), [
            ("", "ann", ("hel",)),
            ("bob", "eve", ("cal", "dan", "fay")),
            ("bob", "kit", ("gus",)),
            ("pa", "ma", ("ann", "bob")),
        ])

    def test_a_father_alone_and_a_mother_alone(self):
        family = (
            HE, SHE, ("c", "he", "pa", None), ("b", "he", None, "ma"),
            ("a", "she", "pa", "ma"), ("d", "he", "pa", None), ("e", "she", None, "ma"),
        )
        self.assertEqual(couples(family), [
            ("", "ma", ("b", "e")), ("pa", "", ("c", "d")), ("pa", "ma", ("a",)),
        ])

    def test_children_stand_in_the_order_of_births(self):
        family = (HE, SHE) + tuple((name, "she", "pa", "ma") for name in "zbyca")
        self.assertEqual(couples(family), [("pa", "ma", ("z", "b", "y", "c", "a"))])

    def test_without_children_there_is_no_couple(self):
        self.assertEqual(couples((HE,)), [])
        self.assertEqual(couples((HE, SHE)), [])

    def test_families_drawn(self):
        rand = samples.drawn(3)
        for _ in range(300):
            family = samples.family_at_random(rand, rand.randint(1, 12))
            self.assertEqual(couples(family), slow.couples(family))

    def test_no_family(self):
        for thing in samples.any_things() + [(), (HE, HE), founders(41)]:
            with self.assertRaises(NoFamily):
                couples(thing)

    def test_what_is_told_is_new(self):
        told = couples(samples.HOUSE)
        expected = list(told)
        told.clear()
        self.assertEqual(couples(samples.HOUSE), expected)
        self.assertIsNot(couples(samples.HOUSE), couples(samples.HOUSE))

    def test_kinds(self):
        told = couples(samples.HOUSE)
        self.assertIs(type(told), list)
        for couple in told:
            self.assertIs(type(couple), tuple)
            self.assertEqual([type(part) for part in couple], [str, str, tuple])


class IsPlain(unittest.TestCase):
    def yes(self, *persons):
        self.assertIs(is_plain(persons), True, persons)

    def no(self, *persons):
        self.assertIs(is_plain(persons), False, persons)

    def test_ordinary_families(self):
        self.yes(HE)
        self.yes(HE, SHE)
        self.yes(HE, SHE, ("a", "he", "pa", "ma"), ("b", "she", "pa", "ma"))
        self.yes(*samples.HOUSE)
        self.no(*samples.RING)

    def test_one_person_in_many_couples_is_no_ring(self):
        self.yes(
            HE, SHE, ("eve", "she", None, None), ("a", "he", "pa", "ma"),
            ("b", "he", "pa", "eve"), ("c", "he", "pa", None), ("d", "he", "a", None),
        )

    def test_a_couple_and_the_same_two_alone(self):
        self.yes(HE, SHE, ("a", "he", "pa", "ma"), ("b", "he", "pa", None))
        self.yes(HE, SHE, ("a", "he", "pa", "ma"), ("b", "he", None, "ma"))

    def test_a_ring_of_two_couples(self):
        # A parent and a child have a child.
        self.no(HE, SHE, ("a", "she", "pa", "ma"), ("b", "she", "pa", "a"))
        self.no(HE, ("a", "she", "pa", None), ("b", "she", "pa", "a"))
        # Brother and sister have one.
        self.no(HE, ("a", "she", "pa", None), ("b", "he", "pa", None), ("c", "he", "b", "a"))
        self.no(SHE, ("a", "she", None, "ma"), ("b", "he", None, "ma"), ("c", "he", "b", "a"))

    def test_a_ring_of_three_couples(self):
        couple = (HE, SHE, ("a", "she", "pa", "ma"), ("b", "he", "pa", "ma"))
        # Cousins have a child.
        cousins = (("c", "he", "b", None), ("d", "she", None, "a"))
        self.yes(*couple, *cousins)
        self.no(*couple, *cousins, ("e", "he", "c", "d"))
        # Half brother and half sister, by both their parents in turn.
        self.no(
            HE, SHE, ("x", "he", None, None), ("y", "she", None, None), ("a", "he", "pa", "ma"),
            ("b", "he", "pa", "y"), ("c", "he", "x", "y"), ("d", "he", "x", "ma"),
        )

    def test_a_ring_of_four_couples(self):
        family = (
            HE, SHE, ("x", "he", None, None), ("y", "she", None, None), ("a", "he", "pa", "ma"),
            ("b", "he", "pa", "ma"), ("c", "she", "x", "y"), ("d", "she", "x", "y"),
        )
        self.yes(*family, ("e", "he", "a", "c"))
        self.no(*family, ("e", "he", "a", "c"), ("f", "he", "b", "d"))

    def test_a_ring_away_from_the_first_person(self):
        self.no(("z", "he", None, None), *samples.RING)
        self.no(*samples.RING, ("z", "he", None, None))

    def test_families_drawn(self):
        rand, told = samples.drawn(4), {True: 0, False: 0}
        for _ in range(600):
            family = samples.family_at_random(rand, rand.randint(1, 12), founders=0.5)
            told[is_plain(family)] += 1
            self.assertIs(is_plain(family), not slow.has_ring(family), family)
        self.assertGreater(min(told.values()), 50)

    def test_no_family(self):
        for thing in samples.any_things() + [(), (HE, HE), founders(41)]:
            with self.assertRaises(NoFamily):
                is_plain(thing)
