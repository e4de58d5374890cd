import itertools
import random
import unittest

from answertrees.claims import chosen
from answertrees.elders import borne, standing
from answertrees.forests import forest
from answertrees.peeling import bare, is_answer
from answertrees.rings import by_names
from answertrees.voices import voices
from answertrees.ways import way
from tests.helper import HEADS, RULES, asked, drawn_marks, drawn_pack, letter, numbered, pack, put

RE = (("ahead", "re"),)


class Case(unittest.TestCase):
    def ties(self, letters, marks=(), rules=RE):
        return {name: (elder, reason) for name, elder, reason in asked(self, forest, letters, marks, rules)}

    def by_heads(self, letters, marks=(), rules=RE):
        """The roots that heads tie, with their elders."""
        return {name: tie[0] for name, tie in self.ties(letters, marks, rules).items() if tie[1][0] == "heads"}


class AlikeHeads(Case):
    def test_an_answer_is_tied(self):
        letters = pack(letter("a", (), 5, "Walls"), letter("b", (), 3, "Re: WALLS"))
        self.assertEqual(asked(self, forest, letters, (), RE), (
            ("a", None, ("first",)), ("b", "a", ("heads", "walls"))))

    def test_no_answer_leads(self):
        letters = pack(letter("a", (), 1, "Re: walls"), letter("b", (), 9, "walls"), letter("c", (), 2, "re: walls"))
        self.assertEqual(self.by_heads(letters), {"a": "b", "c": "b"})

    def test_all_answers(self):
        letters = pack(letter("a", (), 4, "Re: walls"), letter("b", (), 3, "re: walls"), letter("c", (), 3, "Re: walls"))
        self.assertEqual(self.by_heads(letters), {"a": "b", "c": "b"})

    def test_no_answers_stay(self):
        letters = pack(letter("a", (), 4, "walls"), letter("b", (), 3, "walls"), letter("c", (), 1, "Re: walls"))
        self.assertEqual(self.by_heads(letters), {"c": "b"})
        self.assertEqual(self.by_heads(letters[:2]), {})

    def test_least_voice_leads(self):
        letters = pack(letter("b", (), 10, "walls"), letter("c", (), 9, "walls"), letter("a", (), 11, "Re: walls"))
        self.assertEqual(self.by_heads(letters), {"a": "c"})
        letters = pack(letter("c", (), 9, "walls"), letter("b", (), 9, "walls"), letter("a", (), 0, "Re: walls"))
        self.assertEqual(self.by_heads(letters), {"a": "b"})

    def test_by_the_voice_not_by_the_root(self):
        # Empty roots p and q: their voices are a and b.
        letters = pack(letter("a", ("q",), 7, "Re: walls"), letter("b", ("p",), 8, "Re: walls"))
        self.assertEqual(self.by_heads(letters), {"p": "q"})
        letters = pack(letter("a", ("q",), 7, "Re: walls"), letter("b", ("p",), 7, "Re: walls"))
        self.assertEqual(self.by_heads(letters), {"p": "q"})
        # The root's letter speaks, not the elder one beneath it.
        letters = pack(letter("a", (), 5, "Re: walls"), letter("b", (), 6, "Re: walls"), letter("c", ("b",), 1, "gates"))
        self.assertEqual(self.by_heads(letters), {"b": "a"})

    def test_heads_beneath_count_nothing(self):
        letters = pack(letter("a", (), 5, "gates"), letter("b", ("a",), 6, "Re: walls"), letter("c", (), 7, "walls"))
        self.assertEqual(self.by_heads(letters), {})

    def test_empty_bare_texts(self):
        letters = pack(letter("a", (), 5, "Re:"), letter("b", (), 6, ""), letter("c", (), 7, "re: re[3]:"))
        self.assertEqual(self.by_heads(letters), {})

    def test_texts_apart(self):
        letters = pack(
            letter("a", (), 5, "walls"), letter("b", (), 6, "Re: gates"), letter("c", (), 7, "Re: walls"),
            letter("d", (), 8, "gates"), letter("e", (), 9, "re: wall"))
        self.assertEqual(self.by_heads(letters), {"b": "d", "c": "a"})

    def test_an_answer_by_ahead_alone(self):
        letters = pack(letter("a", (), 5, "walls"), letter("b", (), 6, "[list] walls"), letter("c", (), 7, "walls (was)"))
        self.assertEqual(self.by_heads(letters, (), RULES), {})
        letters = put(letters, letter("d", (), 8, "[list] Re: Walls (was)"))
        self.assertEqual(self.ties(letters, (), RULES)["d"], ("a", ("heads", "walls")))

    def test_no_rules(self):
        letters = pack(letter("a", (), 5, "walls"), letter("b", (), 6, "walls"), letter("c", (), 7, "Re: walls"))
        self.assertEqual(self.by_heads(letters, (), ()), {})
        self.assertEqual(asked(self, forest, letters, (), ()), by_names(letters, ()))

    def test_chains_no_further(self):
        # Each is tied to the leader's root itself, and what hangs beneath stays there.
        letters = pack(
            letter("a", ("p",), 1, "Re: walls"), letter("b", ("q",), 2, "Re: walls"), letter("c", ("b",), 3, "Re: walls"),
            letter("d", (), 4, "Re: walls"))
        self.assertEqual(self.ties(letters), {
            "a": ("p", ("own",)), "p": (None, ("first",)), "b": ("q", ("own",)), "c": ("b", ("own",)),
            "q": ("p", ("heads", "walls")), "d": ("p", ("heads", "walls"))})


class Hands(Case):
    def test_split_off_is_not_tied(self):
        letters = pack(letter("a", (), 5, "walls"), letter("b", (), 6, "Re: walls"), letter("c", (), 7, "Re: walls"))
        self.assertEqual(self.by_heads(letters, (("b", None),)), {"c": "a"})
        self.assertEqual(self.ties(letters, (("b", None),))["b"], (None, ("hand",)))

    def test_split_off_does_not_lead(self):
        letters = pack(letter("a", (), 5, "walls"), letter("b", (), 6, "Re: walls"), letter("c", (), 7, "Re: walls"))
        self.assertEqual(self.by_heads(letters, (("a", None),)), {"c": "b"})
        self.assertEqual(self.by_heads(letters, (("a", None), ("b", None))), {})

    def test_split_off_empty_root(self):
        letters = pack(letter("a", (), 5, "walls"), letter("b", ("p",), 6, "Re: walls"))
        self.assertEqual(self.by_heads(letters), {"p": "a"})
        self.assertEqual(self.by_heads(letters, (("p", None),)), {})
        self.assertEqual(self.by_heads(letters, (("b", None),)), {})

    def test_held_is_under_its_elder(self):
        letters = pack(letter("a", (), 5, "walls"), letter("b", (), 6, "Re: walls"))
        self.assertEqual(self.ties(letters, (("b", "z"),)), {
            "a": (None, ("first",)), "b": ("z", ("hand",)), "z": ("a", ("heads", "walls"))})


class CutRings(Case):
    def test_tied_by_heads(self):
        letters = pack(letter("a", ("b",), 1, "Re: walls"), letter("b", ("a",), 2, "Re: gates"))
        self.assertEqual(self.ties(letters)["a"], (None, ("ring", ("a", "b"))))
        letters = put(letters, letter("c", (), 9, "walls"))
        self.assertEqual(self.ties(letters), {
            "a": ("c", ("heads", "walls")), "b": ("a", ("own",)), "c": (None, ("first",))})

    def test_leads_by_heads(self):
        letters = pack(letter("a", ("b",), 1, "walls"), letter("b", ("a",), 2), letter("c", (), 3, "Re: walls"))
        self.assertEqual(self.ties(letters)["c"], ("a", ("heads", "walls")))
        self.assertEqual(self.ties(letters)["a"], (None, ("ring", ("a", "b"))))

    def test_empty_place_cut(self):
        letters = pack(letter("a", ("p",), 5, "gates"), letter("c", ("a", "p"), 3, "Re: walls"), letter("d", (), 1, "walls"))
        self.assertEqual(self.ties(letters)["p"], ("d", ("heads", "walls")))


class Shown(Case):
    def test_of_nothing(self):
        self.assertEqual(asked(self, forest, (), (), ()), ())
        self.assertEqual(asked(self, forest, (), (("a", "b"), ("c", None)), RE), ())

    def test_marks_alone(self):
        marks = (("a", "m"), ("k", "a"), ("m", "o"), ("s", None), ("t", "u"))
        self.assertEqual(self.ties(pack(letter("a")), marks), {
            "a": ("m", ("hand",)), "m": ("o", ("hand",)), "o": (None, ("first",))})

    def test_chains_of_empty_places(self):
        # d names b and c beneath a, but is itself held elsewhere: nothing is beneath b and c then.
        letters = pack(letter("a"), letter("d", ("a", "b", "c")))
        self.assertEqual(sorted(self.ties(letters)), ["a", "b", "c", "d"])
        self.assertEqual(sorted(self.ties(letters, (("d", "a"),))), ["a", "d"])
        self.assertEqual(sorted(self.ties(letters, (("d", None),))), ["a", "d"])
        self.assertEqual(sorted(self.ties(letters, (("d", "b"),))), ["a", "b", "d"])

    def test_deep_ones(self):
        names, letters = numbered(1500)
        found = self.ties(letters[-1:], tuple(zip(names[1:], names)))
        self.assertEqual(sorted(found), names)


class Whole(Case):
    def plain_forest(self, letters, marks, rules):
        """The forest as point 14 says it, step by step."""
        found = {name: (elder, reason) for name, elder, reason in by_names(letters, marks)}
        trees = [(root, borne(letters, voice)) for root, voice in voices(letters, marks) if (root, None) not in marks]
        for root, voice in trees:
            text = bare(voice[2], rules)
            alike = [(is_answer(one[2], rules), one[1], one[0], other) for other, one in trees
                     if bare(one[2], rules) == text]
            if text and min(alike)[3] != root and is_answer(voice[2], rules):
                found[root] = (min(alike)[3], ("heads", text))
        bearing = {one[0] for one in letters}
        shown = {name for one in bearing for name in way(letters, marks, one)}
        return tuple((name, *found[name]) for name in sorted(shown))

    def check(self, letters, marks, rules):
        found = asked(self, forest, letters, marks, rules)
        self.assertEqual(found, self.plain_forest(letters, marks, rules))
        above = {name: elder for name, elder, reason in found}
        self.assertEqual(list(above), sorted(above))
        bearing = {one[0] for one in standing(letters)}
        beneath = set()
        for name in above:
            up = [name]
            while above[up[-1]] is not None:
                up.append(above[up[-1]])
                self.assertLessEqual(len(up), len(above))
            if name in bearing:
                beneath.update(up)
        self.assertEqual(set(above), beneath)
        self.assertLessEqual(bearing, set(above))
        for name, elder in marks:
            if name in above:
                self.assertEqual(above[name], elder)
        return found

    def test_drawn_ones(self):
        dice = random.Random(14)
        heads = 0
        for _ in range(400):
            found = self.check(drawn_pack(dice), drawn_marks(dice), dice.choice(((), RE, RULES)))
            heads += len([reason for name, elder, reason in found if reason[0] == "heads"])
        self.assertGreater(heads, 60)

    def test_each_small_pack(self):
        kinds = [None] + [(row, day, head) for row in ((), "b", "p") for day, head in (
            (1, "Re: walls"), (2, "walls"), (1, "walls"), (2, "re: gates"))]
        for parts in itertools.product(kinds, repeat=3):
            letters = [letter(name, *part) for name, part in zip("abc", parts) if part]
            self.check(pack(*letters), (), RE)

    def test_reasons(self):
        # (c): without a mark and a cut ring, a letter goes by its own row, an empty place by its least claim.
        dice = random.Random(15)
        for _ in range(200):
            letters, marks = drawn_pack(dice), drawn_marks(dice)
            for name, elder, reason in forest(letters, marks, RULES):
                told = chosen(letters, marks, name)
                if told[0] is not None and reason[0] not in ("ring", "heads"):
                    self.assertEqual((elder, reason), told)
                if name in dict(marks):
                    self.assertEqual((elder, reason), (dict(marks)[name], ("hand",)))

    def test_whatever_order_letters_come_in(self):
        dice = random.Random(16)
        for _ in range(100):
            letters, marks = drawn_pack(dice), drawn_marks(dice)
            came = list(letters)
            dice.shuffle(came)
            grown = ()
            for one in came:
                grown = put(grown, one)
                forest(grown, marks, RULES)
            self.assertEqual(forest(grown, marks, RULES), forest(letters, marks, RULES))
            # Letters that don't stand change nothing.
            self.assertEqual(forest(standing(letters), marks, RULES), forest(letters, marks, RULES))

    def test_order_of_rules(self):
        dice = random.Random(17)
        for _ in range(60):
            letters, marks = drawn_pack(dice), drawn_marks(dice)
            for rules in itertools.permutations(RULES):
                self.assertEqual(forest(letters, marks, rules), forest(letters, marks, RULES))
            self.assertEqual(forest(letters, marks, RULES + RULES), forest(letters, marks, RULES))

    def renamed(self, thing, names):
        if isinstance(thing, tuple):
            return tuple(self.renamed(part, names) for part in thing)
        return names.get(thing, thing)

    def test_days_and_names_by_their_order_alone(self):
        dice = random.Random(18)
        for _ in range(200):
            letters, marks = drawn_pack(dice), drawn_marks(dice)
            days = dict(zip(range(5), sorted(dice.sample(range(10 ** 8), 5))))
            new = sorted(dice.sample([f"{one}{other}" for one in "0k9z" for other in "xa7bcdy"], 12))
            names = dict(zip("abcdefgpqrst", new))
            moved = tuple((names[name], days[day], head, self.renamed(row, names)) for name, day, head, row in letters)
            expected = []
            for name, elder, reason in forest(letters, marks, RULES):
                reason = reason if reason[0] == "heads" else self.renamed(reason, names)
                expected.append((names[name], self.renamed(elder, names), reason))
            self.assertEqual(forest(moved, self.renamed(marks, names), RULES), tuple(expected))


class LettersThatTellTheWay(Case):
    """Point 3 (f): a letter that names just the way above its empty place changes no elder."""

    def elders(self, letters, marks, rules):
        return {name: elder for name, elder, reason in forest(letters, marks, rules)}

    def check(self, letters, marks, rules, told):
        before = self.elders(letters, marks, rules)
        split = [name for name, elder in marks if elder is None]
        many = 0
        for name in before:
            up = way(letters, marks, name)
            ends = borne(letters, up[-1]) is not None or up[-1] in split
            if borne(letters, name) is None and ends and len(up) <= 10:
                many += 1
                for day, head in told:
                    more = letter(name, tuple(reversed(up[1:])), day, head)
                    self.assertEqual(self.elders(put(letters, more), marks, rules), before)
        return many

    def test_drawn_ones(self):
        dice = random.Random(19)
        tried = 0
        for _ in range(500):
            told = [(day, dice.choice(HEADS)) for day in (0, 3, 99999999)]
            tried += self.check(drawn_pack(dice), drawn_marks(dice), dice.choice(((), RULES)), told)
        self.assertGreater(tried, 150)

    def test_nine_names(self):
        row = tuple("abcdefghi")
        letters = pack(letter("a", (), 4, "walls"), letter("z", row, 5, "Re: walls"), letter("y", ("b", "d"), 6))
        self.assertEqual(self.check(letters, (), RE, [(0, "walls"), (9, "Re: walls")]), 8)
        letters = put(letters, letter("j1", ("i", "j"), 3), letter("j2", ("j",)))
        self.assertEqual(way(letters, (), "j"), tuple("jihgfedcba"))
        self.assertEqual(self.check(letters, (), RE, [(0, "walls"), (9, "Re: walls")]), 9)

    def test_split_off(self):
        letters = pack(letter("a", ("p",), 4, "Re: walls"), letter("b", (), 5, "walls"))
        self.assertEqual(self.check(letters, (("p", None),), RE, [(0, "walls"), (9, "Re: walls")]), 1)

    def test_held_in_a_ring(self):
        letters = pack(letter("a", ("p",), 5, "Re: walls"), letter("b", ("a",), 4, "walls"))
        self.assertEqual(self.check(letters, (("p", "b"),), RE, [(0, "walls"), (9, "Re: walls")]), 1)


if __name__ == "__main__":
    unittest.main()
