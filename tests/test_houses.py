"""Point 12: a house, its deeds, what it tells, what it refuses, and how deeds are undone."""

import unittest

from kincalls.errors import Full, KinError, NoDeed, NoName, NoParent, NoSex, NoSpeech, NoWord, Taken
from kincalls.families import is_family, is_plain
from kincalls.houses import House
from tests import samples, slow
from tests.samples import HOUSE, RING, SIDED, SPEECH
from tests.test_quick import name_of
from tests.test_speeches import NO_WORDS, speech_of

NO_NAMES = ["", "A", "abcdefg", "a b", "a1", "\u00e4", b"a", "he\n"]


class Slow:
    """What a house should tell: all its deeds are kept, and gone through anew each time."""

    def __init__(self, speech):
        self.first = speech
        self.deeds = []

    def stands(self):
        """The persons, and the speech."""
        persons, speech = [], self.first
        for kind, *told in self.deeds:
            if kind == "born":
                persons.append(tuple(told))
            elif kind == "speak":
                speech = told[0]
            else:
                name, parent = told
                sex = {person[0]: person[1] for person in persons}[parent]
                at = [person[0] for person in persons].index(name)
                changed = list(persons[at])
                changed[2 if sex == "he" else 3] = parent
                persons[at] = tuple(changed)
        return tuple(persons), speech

    def refusal(self, kind, *told):
        """The refusal of a deed, or None."""
        persons, _ = self.stands()
        sexes = {person[0]: person[1] for person in persons}
        if kind == "born":
            name, sex, father, mother = told
            fits = (
                (NoName, isinstance(name, str) and 1 <= len(name) <= 6 and set(name) <= set(samples.LETTERS)),
                (Taken, name not in list(sexes)),
                (NoSex, sex in ["he", "she"]),
                (NoParent, father is None or father in [x for x in sexes if sexes[x] == "he"]),
                (NoParent, mother is None or mother in [x for x in sexes if sexes[x] == "she"]),
                (Full, len(persons) < 40),
            )
        elif kind == "found":
            name, parent = told
            names = list(sexes)
            there = name in names
            ahead = there and parent in names[:names.index(name)]
            fits = (
                (NoName, there),
                (NoParent, ahead),
                (NoParent, ahead and persons[names.index(name)][2 if sexes[parent] == "he" else 3] is None),
            )
        elif kind == "speak":
            fits = ((NoSpeech, told[0] in [SPEECH, SIDED]),)
        else:
            fits = ((NoDeed, self.deeds),)
        return next((refusal for refusal, right in fits if not right), None)

    def do(self, kind, *told):
        """Do a deed, or undo the last one."""
        if kind == "undo":
            self.deeds.pop()
        else:
            self.deeds.append((kind,) + told)


def drawn_deed(rand, names):
    """A deed, such as can be done more often than not."""
    wrong = [None, True, 0, "", "A", b"a", [], {}, ("a",), "nobody", "abcdefg"]
    kind = rand.choice(("born",) * 5 + ("found",) * 4 + ("speak", "undo"))

    def some(things, odds=0.93):
        return rand.choice(things if things and rand.random() < odds else wrong)

    if kind == "born":
        # Most of these names are not there yet.
        name = some([name_of(rand.randrange(676)), rand.choice(names or ["z"])])
        return kind, name, some(["he", "she"]), some([None] + names), some([None] + names)
    if kind == "found":
        return kind, some(names), some(names)
    if kind == "speak":
        return kind, some([SPEECH, SIDED], 0.7)
    return (kind,)


class Told(unittest.TestCase):
    def same(self, house, slowly):
        """Hold a house against the slow one."""
        family, speech = slowly.stands()
        self.assertEqual(house.family(), family)
        self.assertIs(type(house.family()), tuple)
        self.assertEqual(house.speech(), speech)
        self.assertEqual(len(house), len(family))
        self.assertIs(house.plain(), not slow.has_ring(family))
        self.assertTrue(family == () or is_family(family))

    def kin_too(self, rand, house):
        """Hold what it tells of one of its persons against the slow reading."""
        family, speech = house.family(), house.speech()
        if not family:
            return
        one, other = rand.choice(family)[0], rand.choice(family)[0]
        told = slow.called(family, speech, one, other)
        self.assertEqual(house.called(one, other), told)
        self.assertEqual(house.called(one, one), slow.called(family, speech, one, one))
        for word in ("", "sib", "elder"):
            self.assertEqual(house.who(one, word), slow.who(family, speech, one, word))

    def done(self, house, slowly, deed):
        """Do a deed in both, and see that it is refused or done alike."""
        refusal = slowly.refusal(*deed)
        kind, *told = deed
        call = getattr(house, kind)
        if refusal is not None:
            with self.assertRaises(refusal):
                call(*told)
            return
        self.assertIsNone(call(*told))
        slowly.do(*deed)

    def test_rows_of_deeds(self):
        rand = samples.drawn(71)
        refused = rings = 0
        for _ in range(25):
            house, slowly = House(SPEECH), Slow(SPEECH)
            self.same(house, slowly)
            for at in range(60):
                deed = drawn_deed(rand, [person[0] for person in house.family()])
                refused += slowly.refusal(*deed) is not None
                self.done(house, slowly, deed)
                self.same(house, slowly)
                rings += not house.plain()
                if at % 10 == 9:
                    self.kin_too(rand, house)
            if len(slowly.deeds) % 2:
                house = house.twin()
            # And back again, with one more.
            for _ in range(len(slowly.deeds) + 1):
                self.done(house, slowly, ("undo",))
                self.same(house, slowly)
            self.assertEqual(house.family(), ())
        self.assertGreater(refused, 200)
        self.assertGreater(rings, 100)

    def test_twins_go_their_own_ways(self):
        rand = samples.drawn(72)
        for _ in range(12):
            pairs = [(House(SIDED), Slow(SIDED))]
            for at in range(60):
                house, slowly = rand.choice(pairs)
                deed = drawn_deed(rand, [person[0] for person in house.family()])
                self.done(house, slowly, deed)
                if at % 12 == 11:
                    twin = Slow(slowly.first)
                    twin.deeds = list(slowly.deeds)
                    pairs.append((house.twin(), twin))
                for told in pairs:
                    self.same(*told)
            for house, slowly in pairs:
                while slowly.deeds:
                    self.done(house, slowly, ("undo",))
                    for told in pairs:
                        self.same(*told)
                self.done(house, slowly, ("undo",))


def house_of(family, speech=SPEECH):
    """A house in which these persons were born."""
    house = House(speech)
    for person in family:
        house.born(*person)
    return house


class Deeds(unittest.TestCase):
    def test_without_persons(self):
        house = House(SPEECH)
        self.assertEqual((house.family(), house.speech(), len(house)), ((), SPEECH, 0))
        self.assertIs(house.plain(), True)
        for call, refusal in ((house.undo, NoDeed), (house.twin().undo, NoDeed)):
            with self.assertRaises(refusal):
                call()
        for one, other in (("pa", "pa"), ("", ""), (None, None)):
            for call in (house.called, house.who, house.found):
                with self.assertRaises(NoName):
                    call(one, other)

    def test_what_a_house_of_persons_tells(self):
        house = house_of(HOUSE)
        self.assertEqual(house.family(), HOUSE)
        self.assertEqual(len(house), len(HOUSE))
        self.assertIs(house.plain(), True)
        self.assertEqual(house.called("cal", "dan"), ["sib"])
        self.assertEqual(house.called("cal", "zed"), [])
        self.assertEqual(house.who("bob", "kid"), ["cal", "dan", "fay", "gus"])
        house.speak(SIDED)
        self.assertEqual(house.speech(), SIDED)
        self.assertEqual(house.called("cal", "dan"), ["elder", "peer"])
        house.undo()
        self.assertEqual((house.family(), house.speech()), (HOUSE, SPEECH))

    def test_parents_by_name(self):
        house = House(SPEECH)
        self.assertIsNone(house.born("ma", "she"))
        self.assertIsNone(house.born("pa", "he"))
        self.assertIsNone(house.born("al", "he", mother="ma"))
        self.assertIsNone(house.born("bo", "he", father="pa"))
        self.assertIsNone(house.born("cy", "she", mother="ma", father="pa"))
        self.assertIsNone(house.born(name="di", sex="she", father="pa", mother="ma"))
        self.assertEqual([person[2:] for person in house.family()], [
            (None, None), (None, None), (None, "ma"), ("pa", None), ("pa", "ma"), ("pa", "ma"),
        ])

    def test_families_need_not_be_plain(self):
        house = house_of(RING)
        self.assertIs(house.plain(), False)
        self.assertEqual(house.family(), RING)
        self.assertIs(is_plain(house.family()), False)
        for one, *_ in RING:
            for other, *_ in RING:
                self.assertEqual(house.called(one, other), slow.called(RING, SPEECH, one, other))
        # `dot` is in no ring, `cyd` is.
        house.undo()
        self.assertIs(house.plain(), False)
        house.undo()
        self.assertIs(house.plain(), True)

    def test_a_parent_found_later(self):
        house = house_of((("pa", "he", None, None), ("ma", "she", None, None), ("al", "he", None, None)))
        self.assertEqual(house.called("al", "pa"), [])
        self.assertIsNone(house.found("al", "ma"))
        self.assertEqual(house.family()[2], ("al", "he", None, "ma"))
        self.assertIsNone(house.found("al", "pa"))
        self.assertEqual(house.family()[2], ("al", "he", "pa", "ma"))
        self.assertEqual(house.called("al", "pa"), ["old"])
        for parent in ("pa", "ma"):
            with self.assertRaises(NoParent):
                house.found("al", parent)
        house.undo()
        self.assertEqual(house.family()[2], ("al", "he", None, "ma"))
        house.undo()
        self.assertEqual(house.family()[2], ("al", "he", None, None))

    def test_another_parent_than_the_one_told_is_refused(self):
        house = house_of((
            ("pa", "he", None, None), ("po", "he", None, None), ("ma", "she", None, None),
            ("al", "he", "pa", None),
        ))
        with self.assertRaises(NoParent):
            house.found("al", "po")
        self.assertIsNone(house.found("al", "ma"))

    def test_a_parent_is_born_ahead(self):
        house = house_of((("pa", "he", None, None), ("al", "he", None, None), ("bo", "he", None, None)))
        for name, parent in (("pa", "al"), ("al", "bo"), ("pa", "bo"), ("al", "al"), ("pa", "pa")):
            with self.assertRaises(NoParent):
                house.found(name, parent)
        self.assertIsNone(house.found("bo", "al"))
        self.assertIsNone(house.found("al", "pa"))

    def test_rings_by_finding(self):
        house = house_of(RING[:4] + (("cyd", "she", "al", None),))
        self.assertIs(house.plain(), True)
        house.found("cyd", "bea")
        self.assertIs(house.plain(), False)
        house.undo()
        self.assertIs(house.plain(), True)

    def test_40_persons_and_one_more(self):
        house = House(SPEECH)
        for at in range(40):
            self.assertIsNone(house.born(name_of(at), "he"))
        self.assertEqual(len(house), 40)
        for twin in (house, house.twin()):
            with self.assertRaises(Full):
                twin.born("zz", "he")
            self.assertEqual(len(twin), 40)
        self.assertIsNone(house.found("ab", "aa"))
        house.undo()
        house.undo()
        self.assertEqual(len(house), 39)
        self.assertIsNone(house.born("zz", "he", "aa"))
        with self.assertRaises(Full):
            house.born("zy", "she")

    def test_a_name_is_free_again_when_the_birth_is_undone(self):
        house = House(SPEECH)
        house.born("al", "he")
        with self.assertRaises(Taken):
            house.born("al", "she")
        house.undo()
        self.assertIsNone(house.born("al", "she"))
        self.assertEqual(house.family(), (("al", "she", None, None),))

    def test_speaking_the_same_speech_is_a_deed_too(self):
        house = House(SPEECH)
        self.assertIsNone(house.speak(SPEECH))
        self.assertIsNone(house.undo())
        with self.assertRaises(NoDeed):
            house.undo()

    def test_undoing_is_no_deed(self):
        house = House(SPEECH)
        house.born("al", "he")
        house.speak(SIDED)
        self.assertIsNone(house.undo())
        self.assertEqual((len(house), house.speech()), (1, SPEECH))
        self.assertIsNone(house.undo())
        self.assertEqual((len(house), house.speech()), (0, SPEECH))
        with self.assertRaises(NoDeed):
            house.undo()

    def test_what_was_told_does_not_change(self):
        house = house_of(RING)
        family, twin, names = house.family(), house.twin(), house.who("al", "kid")
        self.assertIs(type(twin), House)
        house.speak(SIDED)
        house.born("new", "he", "al")
        self.assertEqual((family, twin.family(), twin.speech()), (RING, RING, SPEECH))
        names.append("more")
        self.assertEqual(twin.who("al", "kid"), ["cyd", "dot"])

    def test_a_house_that_is_empty_is_a_house(self):
        self.assertEqual(len(House(SPEECH).twin()), 0)


class Refusals(unittest.TestCase):
    def setUp(self):
        self.house = house_of(HOUSE)
        self.house.speak(SIDED)
        self.house.speak(SPEECH)

    def tearDown(self):
        """What was refused has changed nothing, and is no deed."""
        self.assertEqual((self.house.family(), self.house.speech()), (HOUSE, SPEECH))
        self.house.undo()
        self.assertEqual((self.house.family(), self.house.speech()), (HOUSE, SIDED))
        for _ in range(len(HOUSE) + 1):
            self.house.undo()
        with self.assertRaises(NoDeed):
            self.house.undo()

    def refuses(self, refusal, call, *things):
        with self.assertRaises(refusal):
            call(*things)

    def test_no_speech(self):
        for speech in samples.any_things() + [(), speech_of(9), (True, 0, speech_of(2)[2])]:
            self.refuses(NoSpeech, House, speech)
            self.refuses(NoSpeech, self.house.speak, speech)

    def test_born_no_name_comes_first(self):
        for name in samples.any_things() + NO_NAMES:
            for rest in (("he",), (None, None, None), ("x", "nobody", []), ("he", "pa", "ma")):
                self.refuses(NoName, self.house.born, name, *rest)

    def test_born_then_taken(self):
        for name, *_ in HOUSE:
            for rest in (("he",), (None, None, None), ("x", "nobody", []), ("he", "pa", "ma")):
                self.refuses(Taken, self.house.born, name, *rest)

    def test_born_then_no_sex(self):
        for sex in samples.any_things() + ["", "He", "hes", "h", "f"]:
            for rest in ((), ("nobody", []), ("pa", "ma")):
                self.refuses(NoSex, self.house.born, "new", sex, *rest)

    def test_born_then_no_parent(self):
        wrong = [thing for thing in samples.any_things() if thing is not None]
        for parent in wrong + NO_NAMES + ["nobody", "new", "ann"]:
            self.refuses(NoParent, self.house.born, "new", "he", parent)
            self.refuses(NoParent, self.house.born, "new", "he", parent, "ma")
        for parent in wrong + NO_NAMES + ["nobody", "new", "bob"]:
            self.refuses(NoParent, self.house.born, "new", "he", None, parent)
            self.refuses(NoParent, self.house.born, "new", "she", "pa", parent)

    def test_born_then_full(self):
        house = house_of(tuple((name_of(at), "he", None, None) for at in range(40)))
        self.refuses(NoName, house.born, "A", "he")
        self.refuses(Taken, house.born, "aa", "he")
        self.refuses(NoSex, house.born, "zz", "x", "nobody")
        self.refuses(NoParent, house.born, "zz", "he", "nobody")
        self.refuses(NoParent, house.born, "zz", "he", None, "aa")
        self.refuses(Full, house.born, "zz", "he", "aa")

    def test_found(self):
        for name in samples.any_things() + NO_NAMES + ["nobody"]:
            for parent in ("pa", None, [], "nobody"):
                self.refuses(NoName, self.house.found, name, parent)
        for parent in samples.any_things() + NO_NAMES + ["nobody", "zed", "hel", "kit", "eve", "gus"]:
            self.refuses(NoParent, self.house.found, "eve", parent)
        for parent in ("pa", "ma"):
            self.refuses(NoParent, self.house.found, "ann", parent)

    def test_called_and_who(self):
        for name in samples.any_things() + NO_NAMES + ["nobody"]:
            self.refuses(NoName, self.house.called, name, "pa")
            self.refuses(NoName, self.house.called, "pa", name)
            for word in ("sib", None, "A"):
                self.refuses(NoName, self.house.who, name, word)
        for word in samples.any_things() + NO_WORDS:
            self.refuses(NoWord, self.house.who, "pa", word)

    def test_each_refusal_is_a_kin_error(self):
        for call, things in ((self.house.born, ("pa", "he")), (self.house.found, ("x", "y"))):
            self.refuses(KinError, call, *things)
            self.refuses(ValueError, call, *things)


if __name__ == "__main__":
    unittest.main()
