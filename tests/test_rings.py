import itertools
import unittest

from answertrees.claims import chosen
from answertrees.elders import borne
from answertrees.hands import is_marks
from answertrees.rings import by_names, places, rings
from tests.helper import asked, letter, pack


class Case(unittest.TestCase):
    def rings(self, letters, marks=()):
        return asked(self, rings, letters, marks)

    def ties(self, letters, marks=()):
        return {name: (elder, reason) for name, elder, reason in asked(self, by_names, letters, marks)}


class Places(Case):
    def test_letters_and_elders(self):
        letters = pack(letter("c", ("b", "c", "a", "b")), letter("x"), letter("c", ("q",), 1))
        self.assertEqual(asked(self, places, letters, ()), ("a", "b", "c", "x"))
        self.assertEqual(asked(self, places, (), ()), ())

    def test_names_that_only_marks_know(self):
        marks = (("c", "z"), ("m", None), ("n", "9"))
        self.assertEqual(asked(self, places, (), marks), ("9", "c", "m", "n", "z"))
        self.assertEqual(asked(self, places, pack(letter("c", ("a",))), marks), ("9", "a", "c", "m", "n", "z"))


class ByNames(Case):
    def test_as_chosen(self):
        letters = pack(letter("a"), letter("b", ("a",)), letter("d", ("b", "c"), 4))
        self.assertEqual(asked(self, by_names, letters, (("b", None), ("y", "z"))), (
            ("a", None, ("first",)),
            ("b", None, ("hand",)),
            ("c", "b", ("told", "d", 1)),
            ("d", "c", ("own",)),
            ("y", "z", ("hand",)),
            ("z", None, ("first",)),
        ))
        self.assertEqual(asked(self, by_names, (), ()), ())
        self.assertEqual(self.rings(letters), ())

    def test_who_is_cut(self):
        letters = pack(letter("a", ("b",), 1), letter("b", ("a",), 2), letter("c", ("a",)))
        self.assertEqual(asked(self, by_names, letters, ()), (
            ("a", None, ("ring", ("a", "b"))),
            ("b", "a", ("own",)),
            ("c", "a", ("own",)),
        ))


class Rings(Case):
    def test_of_two_letters(self):
        self.assertEqual(self.rings(pack(letter("a", ("b",), 1), letter("b", ("a",), 2))), (("a", "b"),))
        self.assertEqual(self.rings(pack(letter("a", ("b",), 2), letter("b", ("a",), 1))), (("b", "a"),))
        self.assertEqual(self.rings(pack(letter("a", ("b",), 1), letter("b", ("a",), 1))), (("a", "b"),))
        self.assertEqual(self.rings(pack(letter("a", ("b",), 10), letter("b", ("a",), 9))), (("b", "a"),))

    def test_longer_ones(self):
        for many in (3, 4, 7, 300):
            names = [f"n{at:03}" for at in range(many)]
            for first in (0, 1, many - 1):
                letters = [letter(names[at], (names[(at + 1) % many],), 1 if at == first else 5) for at in range(many)]
                ring = tuple(names[first:] + names[:first])
                self.assertEqual(self.rings(pack(*letters)), (ring,))
                ties = self.ties(pack(*letters))
                self.assertEqual(ties[names[first]], (None, ("ring", ring)))
                self.assertEqual([name for name in names if ties[name][0] is None], [names[first]])

    def test_up_not_down(self):
        letters = pack(letter("a", ("c",), 1), letter("b", ("a",), 2), letter("c", ("b",), 3))
        self.assertEqual(self.rings(letters), (("a", "c", "b"),))

    def test_with_an_empty_place(self):
        # c tells that p is under a; a itself answers p. The empty place is cut, though a is the eldest.
        letters = pack(letter("a", ("p",), 1), letter("c", ("a", "p"), 9))
        self.assertEqual(self.rings(letters), (("p", "a"),))
        self.assertEqual(self.ties(letters)["p"], (None, ("ring", ("p", "a"))))
        self.assertEqual(self.ties(letters)["a"], ("p", ("own",)))

    def test_with_several_empty_places(self):
        letters = pack(letter("a", ("q",), 1), letter("c", ("a", "p", "q"), 9))
        self.assertEqual(self.rings(letters), (("p", "a", "q"),))
        letters = pack(letter("a", ("p",), 1), letter("c", ("a", "q", "p"), 9))
        self.assertEqual(self.rings(letters), (("p", "q", "a"),))

    def test_of_empty_places_alone(self):
        letters = pack(letter("a", ("q", "p"), 1), letter("b", ("p", "q"), 2))
        self.assertEqual(self.rings(letters), (("p", "q"),))
        self.assertEqual(self.ties(letters)["q"], ("p", ("told", "b", 1)))

    def test_held_is_never_cut(self):
        letters = pack(letter("a", ("b",), 1), letter("b", (), 2))
        self.assertEqual(self.rings(letters, (("b", "a"),)), (("a", "b"),))
        letters = pack(letter("a", (), 1), letter("b", ("a",), 2))
        self.assertEqual(self.rings(letters, (("a", "b"),)), (("b", "a"),))
        self.assertEqual(self.ties(letters, (("a", "b"),)), {
            "a": ("b", ("hand",)), "b": (None, ("ring", ("b", "a")))})

    def test_held_empty_place_goes_past(self):
        # p is empty, yet held: of the others, that all bear letters, the least (day, name) is cut.
        letters = pack(letter("a", ("p",), 5), letter("b", ("a",), 4))
        self.assertEqual(self.rings(letters, (("p", "b"),)), (("b", "a", "p"),))
        # Two empty ones, of which the lesser is held.
        letters = pack(letter("a", ("q",), 1), letter("c", ("p", "q"), 9))
        self.assertEqual(self.rings(letters, (("p", "a"),)), (("q", "p", "a"),))

    def test_held_just_as_it_names(self):
        letters = pack(letter("a", ("b",), 1), letter("b", ("a",), 2))
        self.assertEqual(self.rings(letters, (("a", "b"),)), (("b", "a"),))

    def test_split_off_is_no_ring(self):
        letters = pack(letter("a", ("b",), 1), letter("b", ("a",), 2))
        self.assertEqual(self.rings(letters, (("a", None),)), ())
        self.assertEqual(self.ties(letters, (("a", None),)), {"a": (None, ("hand",)), "b": ("a", ("own",))})

    def test_two_at_once(self):
        letters = pack(letter("a", ("d",), 5), letter("d", ("a",), 4), letter("b", ("c",), 1), letter("c", ("b",), 1))
        self.assertEqual(self.rings(letters), (("b", "c"), ("d", "a")))
        ties = self.ties(letters)
        self.assertEqual(ties["b"], (None, ("ring", ("b", "c"))))
        self.assertEqual(ties["d"], (None, ("ring", ("d", "a"))))
        self.assertEqual((ties["a"], ties["c"]), (("d", ("own",)), ("b", ("own",))))

    def test_from_outside(self):
        letters = pack(letter("a", ("b",), 0), letter("b", ("c",), 2), letter("c", ("b",), 1), letter("z", ("a",)))
        self.assertEqual(self.rings(letters), (("c", "b"),))
        self.assertEqual(self.ties(letters), {
            "a": ("b", ("own",)), "b": ("c", ("own",)), "c": (None, ("ring", ("c", "b"))), "z": ("a", ("own",))})

    def test_a_name_in_two_letters(self):
        # The second letter of a doesn't stand, so its ring is none, and its day counts nothing.
        letters = pack(letter("a", (), 1), letter("a", ("b",), 2), letter("b", ("a",), 3))
        self.assertEqual(self.rings(letters), ())
        letters = pack(letter("a", ("b",), 2), letter("a", ("b",), 9), letter("b", ("a",), 1))
        self.assertEqual(self.rings(letters), (("b", "a"),))


class Whole(Case):
    def plain_rings(self, above):
        found = set()
        for start in above:
            climbed = [start]
            while above[climbed[-1]] is not None and above[climbed[-1]] not in climbed:
                climbed.append(above[climbed[-1]])
            if above[climbed[-1]] == start:
                found.add(frozenset(climbed))
        return found

    def cut_of(self, ring, letters, marks):
        held = dict(marks)
        ranked = []
        for name in ring:
            found = borne(letters, name)
            if name not in held:
                ranked.append((0, 0, name) if found is None else (1, found[1], name))
        return min(ranked)[2]

    def check(self, letters, marks):
        above = {name: chosen(letters, marks, name)[0] for name in places(letters, marks)}
        expected = self.plain_rings(above)
        found = rings(letters, marks)
        self.assertEqual(list(found), sorted(set(found)))
        self.assertEqual({frozenset(ring) for ring in found}, expected)
        for ring in found:
            self.assertEqual(len(set(ring)), len(ring))
            self.assertEqual(ring[0], self.cut_of(ring, letters, marks))
            self.assertEqual([above[name] for name in ring], list(ring[1:] + ring[:1]))
        self.check_ties(letters, marks, {ring[0]: ring for ring in found})

    def check_ties(self, letters, marks, cut):
        ties = by_names(letters, marks)
        self.assertEqual([row[0] for row in ties], list(places(letters, marks)))
        above = {}
        for name, elder, reason in ties:
            whole = (None, ("ring", cut[name])) if name in cut else chosen(letters, marks, name)
            self.assertEqual((elder, reason), whole)
            above[name] = elder
        for name, elder in marks:
            self.assertEqual(above[name], elder)
        for name in above:
            steps = 0
            while name is not None:
                name = above[name]
                steps += 1
                self.assertLessEqual(steps, len(above))

    def test_each_small_pack(self):
        rows = [()] + [(one,) for one in "abcp"] + [("a", "p"), ("p", "a"), ("b", "p"), ("p", "c"), ("c", "q", "p")]
        kinds = [None] + [(row, day) for row in rows for day in (1, 2)]
        held = [(), (("a", "b"),), (("p", "a"),), (("b", None), ("c", "a"))]
        for at, parts in enumerate(itertools.product(kinds, repeat=3)):
            letters = [letter(name, *part) for name, part in zip("abc", parts) if part is not None]
            self.check(pack(*letters), held[at % len(held)])

    def test_all_small_marks(self):
        letters = pack(letter("a", ("p", "b"), 2), letter("b", ("c", "p"), 1), letter("c", ("q", "a"), 1))
        for elders in itertools.product((None, "free", "a", "b", "c", "p", "q"), repeat=5):
            marks = tuple((name, elder) for name, elder in zip("abcpq", elders) if elder != "free")
            if is_marks(marks):
                self.check(letters, marks)


if __name__ == "__main__":
    unittest.main()
