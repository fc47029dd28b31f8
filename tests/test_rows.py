"""Point 4: the rows between two persons of a plain family."""

import unittest

from kincalls.errors import NoFamily, NoName, NotPlain
from kincalls.families import is_plain, rows
from tests import samples, slow


class Rows(unittest.TestCase):
    def told(self, one, other, expected):
        self.assertEqual(rows(samples.HOUSE, one, other), expected)

    def test_to_parents_and_children(self):
        self.told("cal", "bob", ["f"])
        self.told("cal", "eve", ["m"])
        self.told("bob", "cal", ["s"])
        self.told("eve", "cal", ["s"])
        self.told("bob", "fay", ["d"])

    def test_of_one_person_to_itself(self):
        for person in samples.HOUSE:
            self.told(person[0], person[0], [""])

    def test_siblings_have_two_rows_and_half_siblings_one(self):
        self.told("cal", "dan", ["fs", "ms"])
        self.told("cal", "fay", ["fd", "md"])
        self.told("cal", "gus", ["fs"])

    def test_wives_and_husbands_are_come_to_by_sons_and_daughters(self):
        self.told("bob", "eve", ["dm", "sm"])
        self.told("eve", "bob", ["df", "sf"])
        self.told("bob", "kit", ["sm"])

    def test_further_off(self):
        self.told("cal", "hel", ["ffdd", "fmdd"])
        self.told("hel", "cal", ["mfss", "mmss"])
        self.told("eve", "ann", ["dffd", "dfmd", "sffd", "sfmd"])
        self.told("eve", "kit", ["dfsm", "sfsm"])

    def test_no_row_leads_there(self):
        self.told("cal", "zed", [])
        self.told("zed", "cal", [])

    def test_only_the_shortest_are_told(self):
        family = (
            ("pa", "he", None, None), ("al", "he", "pa", None),
            ("bo", "he", "pa", None), ("cy", "he", "al", None),
        )
        self.assertEqual(rows(family, "cy", "bo"), ["ffs"])
        self.assertEqual(rows(family, "bo", "cy"), ["fss"])

    def test_all_pairs_of_plain_families_drawn(self):
        rand = samples.drawn(5)
        for _ in range(60):
            family = samples.plain_family_at_random(rand, rand.randint(1, 16))
            self.assertIs(is_plain(family), True)
            for one, *_ in family:
                for other, *_ in family:
                    expected = slow.rows(family, one, other)
                    self.assertEqual(rows(family, one, other), expected, (family, one, other))

    def test_what_is_told_is_a_new_list_of_texts(self):
        told = rows(samples.HOUSE, "eve", "ann")
        self.assertIs(type(told), list)
        self.assertEqual({type(row) for row in told}, {str})
        told.append("f")
        self.told("eve", "ann", ["dffd", "dfmd", "sffd", "sfmd"])
        rows(samples.HOUSE, "cal", "zed").append("f")
        self.told("cal", "zed", [])


class Refusals(unittest.TestCase):
    def test_no_family(self):
        for thing in samples.any_things() + [()]:
            for one, other in (("pa", "ma"), (thing, thing), ("", None)):
                with self.assertRaises(NoFamily):
                    rows(thing, one, other)

    def test_not_plain(self):
        for one, other in (("pa", "ma"), ("pa", "pa"), ("pa", "nobody"), ([], {}), (None, "pa")):
            with self.assertRaises(NotPlain):
                rows(samples.RING, one, other)

    def test_no_name(self):
        for thing in samples.any_things() + ["", "nobody", "p", "paa", "Pa", "pa ", "abcdefg"]:
            for one, other in ((thing, "pa"), ("pa", thing), (thing, thing)):
                with self.assertRaises(NoName):
                    rows(samples.HOUSE, one, other)
