"""Point 9: what a paper is, and the least one."""

import copy
import itertools
import unittest

from kincalls.sure import is_paper, paper
from tests import samples, slow, speech_samples
from tests.speech_samples import GENERATIONS, NOT_SURE, SEXED, SURE

WAYS = ("free", "he", "she", "both")


def all_spots(speech, many):
    """All places of a speech, or all pairs."""
    stands = itertools.product(range(len(speech[2])), repeat=many)
    return [(sex, way, *told) for told in stands for sex in ("he", "she") for way in WAYS]


def drawn_papers(seed, times):
    """Drawn sure speeches, and the least paper of each, found slowly."""
    rand = samples.drawn(seed)
    for _ in range(times):
        speech = speech_samples.drawn_sure(rand)
        yield rand, speech, slow.grown(speech, set(), set())


class Paper(unittest.TestCase):
    def test_one_stand(self):
        places = [
            ("he", "free", 0), ("he", "he", 0), ("he", "she", 0),
            ("she", "free", 0), ("she", "he", 0), ("she", "she", 0),
        ]
        pairs = [
            (sex, way, 0, 0) for sex in ("he", "she") for way in ("both", "free", "he", "she")
        ]
        told = paper((0, 0, (("a", 0, 0, 0, 0),)))
        self.assertIs(type(told), tuple)
        self.assertEqual([type(part) for part in told], [list, list])
        self.assertEqual((sorted(told[0]), sorted(told[1])), (places, sorted(pairs)))

    def test_none_just_where_the_speech_is_not_sure(self):
        for speech in NOT_SURE:
            self.assertIsNone(paper(speech))
        rand = samples.drawn(31)
        for _ in range(300):
            speech = speech_samples.drawn_speech(rand)
            self.assertEqual(paper(speech) is not None, slow.is_sure(speech), speech)

    def test_the_least_one(self):
        named = [(speech, slow.grown(speech, set(), set())) for speech in SURE]
        for speech, least in named + [told[1:] for told in drawn_papers(32, 150)]:
            places, pairs = paper(speech)
            self.assertEqual(len(places) + len(pairs), len(set(places)) + len(set(pairs)))
            self.assertEqual((set(places), set(pairs)), least)

    def test_what_is_told_is_a_paper(self):
        for speech in SURE + speech_samples.ENDS_3000:
            self.assertIs(is_paper(speech, paper(speech)), True)
        for _, speech, _ in drawn_papers(33, 100):
            self.assertIs(is_paper(speech, paper(speech)), True)

    def test_the_lists_are_new(self):
        told = paper(SEXED)
        expected = copy.deepcopy(told)
        told[0].clear()
        told[1].append("more")
        self.assertEqual(paper(SEXED), expected)


class IsPaper(unittest.TestCase):
    def yes(self, speech, *lists):
        self.assertIs(is_paper(speech, lists), True, (speech, lists))

    def no(self, speech, *lists):
        self.assertIs(is_paper(speech, lists), False, (speech, lists))

    def test_in_any_order(self):
        for rand, speech, least in drawn_papers(41, 60):
            lists = [sorted(part) for part in least]
            for part in lists:
                rand.shuffle(part)
            self.yes(speech, *lists)

    def test_each_place_and_each_pair_of_the_least_one_is_needed(self):
        for _, speech, (places, pairs) in drawn_papers(42, 12):
            for place in places:
                self.no(speech, sorted(places - {place}), sorted(pairs))
            for pair in pairs:
                self.no(speech, sorted(places), sorted(pairs - {pair}))

    def test_each_stands_once(self):
        for _, speech, (places, pairs) in drawn_papers(43, 12):
            for place in places:
                self.no(speech, sorted(places) + [place], sorted(pairs))
            for pair in pairs:
                self.no(speech, sorted(places), [pair] + sorted(pairs))

    def test_more_than_the_least_one_has(self):
        counted = {True: 0, False: 0}
        for rand, speech, least in drawn_papers(44, 150):
            places, pairs = least
            places = places | {rand.choice(all_spots(speech, 1)) for _ in range(rand.randint(0, 2))}
            pairs = pairs | {rand.choice(all_spots(speech, 2)) for _ in range(rand.randint(0, 2))}
            whole = slow.lacking(speech, places, pairs) == (set(), set())
            expected = whole and slow.words_alike(speech, pairs)
            self.assertIs(is_paper(speech, (list(places), list(pairs))), expected)
            places, pairs = slow.grown(speech, places, pairs)
            expected = slow.words_alike(speech, pairs)
            if (places, pairs) != least:
                counted[expected] += 1
            self.assertIs(is_paper(speech, (list(places), list(pairs))), expected)
        self.assertGreater(min(counted.values()), 20)

    def test_all_places_and_all_pairs(self):
        same = (0, 0, tuple(("a", at, 7 - at, (at + 1) % 8, 0) for at in range(8)))
        places, pairs = all_spots(same, 1), all_spots(same, 2)
        self.yes(same, places, pairs)
        self.yes(same, places[::-1], pairs[::-1])
        self.no(same, places[1:], pairs)
        self.no(same, places + places[:1], pairs)

    def test_places_and_pairs_to_which_no_row_comes(self):
        # From stand 2 `f` and `m` lead to unlike words, in a place by their sons alone.
        speech = (0, 0, (("a", 0, 0, 0, 0), ("b", 1, 1, 1, 1), ("a", 0, 1, 0, 0)))
        for sex in ("he", "she"):
            for way, expected in (("free", False), ("he", True), ("she", True), ("both", True)):
                lists = slow.grown(speech, {(sex, way, 2)}, set())
                self.assertIs(is_paper(speech, tuple(map(sorted, lists))), expected)
            for way, expected in (("free", False), ("he", False), ("she", True), ("both", True)):
                lists = slow.grown(speech, set(), {(sex, way, 0, 2)})
                self.assertIs(is_paper(speech, tuple(map(sorted, lists))), expected)

    def test_a_speech_that_is_not_sure_has_none(self):
        rand = samples.drawn(45)
        for _ in range(60):
            speech = speech_samples.drawn_not_sure(rand)
            places, pairs = slow.grown(speech, set(), set())
            self.no(speech, sorted(places), sorted(pairs))
            alike = [pair for pair in pairs if slow.words_alike(speech, [pair])]
            self.no(speech, sorted(places), sorted(alike))

    def test_a_paper_of_another_speech(self):
        self.no(GENERATIONS, *paper(SEXED))
        self.no(SEXED, *paper(GENERATIONS))
        # Other words, and other beginnings.
        he, she, stands = SEXED
        self.yes((he, she, tuple(("a",) + stand[1:] for stand in stands)), *paper(SEXED))
        self.no((she, she, stands), *paper(SEXED))
        self.no((he, he, stands), *paper(SEXED))

    def test_things_of_any_other_kind(self):
        places, pairs = paper(SEXED)
        for thing in samples.any_things() + [
            (), (places,), (places, pairs, []), (pairs, places), [places, pairs],
            (tuple(places), pairs), (places, tuple(pairs)), (places, None), (None, pairs),
            (set(places), pairs), (places, dict.fromkeys(pairs)), ([], []), (places, []), ([], pairs),
            (places + pairs, []), ([], places + pairs), (places + pairs, pairs), (places, places + pairs),
        ]:
            self.assertIs(is_paper(SEXED, thing), False, thing)

    def test_places_and_pairs_of_any_other_kind(self):
        places, pairs = paper(SEXED)
        for thing in samples.any_things():
            self.no(SEXED, places + [thing], pairs)
            self.no(SEXED, places, [thing] + pairs)
        for part, many in ((0, 1), (1, 2)):
            for at in range(2 + many):
                for thing in samples.any_things()[10:] + [None, True, False, -1, 8, 9, 10 ** 30, "f", "He", "free "]:
                    lists = [list(places), list(pairs)]
                    spot = lists[part][0]
                    more = spot[:at] + (thing,) + spot[at + 1:]
                    self.no(SEXED, *lists[:part], lists[part] + [more], *lists[part + 1:])
                    # Nor in the place of the right one.
                    lists[part][0] = more
                    self.no(SEXED, *lists)

    def test_true_and_false_are_no_numbers(self):
        speech = (0, 0, (("a", 1, 1, 0, 0), ("a", 1, 1, 0, 0)))
        places, pairs = paper(speech)
        self.yes(speech, places, pairs)
        for part in (places, pairs):
            for at, spot in enumerate(part):
                for where in range(2, len(spot)):
                    part[at] = spot[:where] + (bool(spot[where]),) + spot[where + 1:]
                    self.no(speech, places, pairs)
                    part[at] = spot

    def test_a_list_in_the_place_of_a_tuple(self):
        places, pairs = paper(SEXED)
        for part in (places, pairs):
            for at in (0, len(part) - 1):
                spot = part[at]
                for wrong in (list(spot), spot[:-1], spot + (0,), dict.fromkeys(spot), (spot,)):
                    part[at] = wrong
                    self.no(SEXED, places, pairs)
                part[at] = spot
        self.yes(SEXED, places, pairs)

    def test_a_pair_has_its_stands_in_order(self):
        speech = (0, 0, (("a", 1, 2, 0, 0), ("a", 0, 0, 1, 1), ("a", 0, 0, 2, 2)))
        places, pairs = paper(speech)
        # The one behind `fs` ahead of the one behind `ms`.
        self.assertIn(("he", "both", 1, 2), pairs)
        self.assertNotIn(("he", "both", 2, 1), pairs)
        self.yes(speech, places, pairs)
        self.no(speech, places, [(sex, way, other, one) for sex, way, one, other in pairs])

    def test_nothing_handed_in_is_changed(self):
        told = paper(SEXED)
        kept = copy.deepcopy(told)
        self.assertIs(is_paper(SEXED, told), True)
        self.assertEqual(told, kept)


if __name__ == "__main__":
    unittest.main()
