import itertools
import random
import string
import unittest

from answertrees.claims import chosen
from answertrees.elders import borne
from answertrees.letters import is_letter
from answertrees.rings import by_names, places
from answertrees.ways import shaker, way
from tests.helper import asked, drawn_marks, drawn_pack, letter, numbered, pack, put


class Way(unittest.TestCase):
    def way(self, name, letters, marks=()):
        return asked(self, way, letters, marks, name)

    def test_of_a_root(self):
        self.assertEqual(self.way("a", pack(letter("a"))), ("a",))
        self.assertEqual(self.way("p", pack(letter("a", ("p",)))), ("p",))
        self.assertEqual(self.way("a", pack(letter("a", ("b",))), (("a", None),)), ("a",))

    def test_up_by_letters_and_empty_places(self):
        letters = pack(letter("d", ("a", "p", "q")), letter("a", ("r",)), letter("z"))
        self.assertEqual(self.way("d", letters), ("d", "q", "p", "a", "r"))
        self.assertEqual(self.way("q", letters), ("q", "p", "a", "r"))
        self.assertEqual(self.way("r", letters), ("r",))

    def test_of_a_place_deep_below(self):
        names, letters = numbered(1500)
        self.assertEqual(self.way(names[-1], letters), tuple(reversed(names)))
        self.assertEqual(self.way(names[-1], letters, ((names[700], None),)), tuple(reversed(names[700:])))
        self.assertEqual(self.way(names[0], letters), (names[0],))

    def test_with_and_without_marks(self):
        letters = pack(letter("a"), letter("b", ("a",)), letter("c", ("b",)))
        self.assertEqual(self.way("c", letters), ("c", "b", "a"))
        self.assertEqual(self.way("c", letters, (("c", "a"),)), ("c", "a"))
        self.assertEqual(self.way("c", letters, (("a", "z"), ("b", "m"), ("m", "a"))), ("c", "b", "m", "a", "z"))
        self.assertEqual(self.way("c", letters, (("c", None),)), ("c",))

    def test_cut_out_of_a_ring(self):
        letters = pack(letter("a", ("b",), 2), letter("b", ("c",), 1), letter("c", ("a",), 3), letter("x", ("a",)))
        self.assertEqual(self.way("b", letters), ("b",))
        self.assertEqual(self.way("a", letters), ("a", "b"))
        self.assertEqual(self.way("c", letters), ("c", "a", "b"))
        self.assertEqual(self.way("x", letters), ("x", "a", "b"))

    def test_into_a_cut_ring_from_outside(self):
        letters = pack(
            letter("a", ("p",), 1), letter("c", ("a", "p"), 9), letter("d", ("c",)), letter("e", ("q", "a"), 12))
        self.assertEqual(self.way("p", letters), ("p",))
        self.assertEqual(self.way("d", letters), ("d", "c", "p"))
        self.assertEqual(self.way("e", letters), ("e", "a", "p"))

    def test_of_places_that_marks_alone_know(self):
        marks = (("k", "m"), ("m", "o"), ("s", None))
        for letters in ((), pack(letter("a"))):
            self.assertEqual(self.way("k", letters, marks), ("k", "m", "o"))
            self.assertEqual(self.way("o", letters, marks), ("o",))
            self.assertEqual(self.way("s", letters, marks), ("s",))

    def test_goes_by_names_to_an_end(self):
        dice = random.Random(12)
        for _ in range(300):
            letters, marks = drawn_pack(dice), drawn_marks(dice)
            above = {name: elder for name, elder, reason in by_names(letters, marks)}
            for name in above:
                found = self.way(name, letters, marks)
                self.assertEqual(found[0], name)
                self.assertEqual([above[one] for one in found], list(found[1:]) + [None])


class Shaker(unittest.TestCase):
    def shaken(self, name, letters, marks=()):
        """Tell the letter that changes the way, once it is tried."""
        found = asked(self, shaker, letters, marks, name)
        self.assertTrue(is_letter(found), found)
        self.assertIsNone(borne(letters, found[0]))
        self.assertNotEqual(way(put(letters, found), marks, name), way(letters, marks, name))
        return found

    def still(self, name, letters, marks=()):
        self.assertIsNone(asked(self, shaker, letters, marks, name))

    def test_of_letters_alone(self):
        letters = pack(letter("a"), letter("b", ("a",)), letter("c", ("a", "b")))
        for name in "abc":
            self.still(name, letters)

    def test_of_an_empty_place_itself(self):
        self.shaken("p", pack(letter("a", ("p",))))
        letters = pack(letter("a", ("q", "p")))
        self.shaken("p", letters)
        self.shaken("q", letters)
        self.shaken("a", letters)
        # Above it are letters alone, but its own tie is told by others.
        self.shaken("p", pack(letter("a"), letter("b", ("a", "p"))))

    def test_of_an_empty_place_far_above(self):
        names, letters = numbered(400)
        letters = tuple(one for one in letters if one[0] != names[0])
        self.shaken(names[-1], letters)
        self.shaken(names[1], letters)
        self.still(names[-1], letters, ((names[0], None),))
        self.still(names[-1], letters, ((names[250], None),))
        self.shaken(names[-1], letters, ((names[0], "z"),))

    def test_of_an_empty_place_among_letters(self):
        letters = pack(letter("a"), letter("b", ("a", "p")), letter("c", ("b",)))
        for name in "bcp":
            self.shaken(name, letters)
        self.still("a", letters)

    def test_of_rings_of_letters_alone(self):
        letters = pack(letter("a", ("b",), 2), letter("b", ("c",), 1), letter("c", ("a",), 3), letter("x", ("p", "a")))
        for name in "abcx":
            self.still(name, letters)
        self.shaken("p", letters)

    def test_of_rings_with_an_empty_place(self):
        letters = pack(letter("a", ("p",), 1), letter("c", ("a", "p"), 9), letter("d", ("c",)))
        for name in "acdp":
            self.shaken(name, letters)
        # Several empty places in a ring: the way ends at the one that is cut, and goes by the others.
        letters = pack(letter("a", ("q", "p"), 1), letter("b", ("p", "q"), 2))
        for name in "abpq":
            self.shaken(name, letters)

    def test_beyond_the_cut(self):
        # From p, which is cut, its ring goes on up to letters alone; the way ends at p itself.
        letters = pack(letter("a", ("b",), 1), letter("b", ("p",), 2), letter("c", ("a", "p"), 9))
        self.assertEqual(way(letters, (), "a"), ("a", "b", "p"))
        for name in "abcp":
            self.shaken(name, letters)

    def test_of_rings_with_held_places(self):
        letters = pack(letter("a", ("p",), 5), letter("b", ("a",), 4))
        for name in "abp":
            self.still(name, letters, (("p", "b"),))
        # q is empty and not held, and is cut.
        letters = pack(letter("a", ("q",), 1), letter("c", ("p", "q"), 9))
        for name in "acpq":
            self.shaken(name, letters, (("p", "a"),))
        # Above q is nobody: held, the way of each in the old ring is settled.
        for name in "acpq":
            self.still(name, letters, (("p", "a"), ("q", None)))

    def test_of_held_and_split_off_empty_places(self):
        letters = pack(letter("a", ("p",)), letter("b"))
        self.still("a", letters, (("p", None),))
        self.still("p", letters, (("p", None),))
        self.still("a", letters, (("p", "b"),))
        self.still("p", letters, (("p", "b"),))
        self.still("a", letters, (("a", "b"),))
        self.shaken("a", letters, (("p", "q"),))
        self.shaken("p", letters, (("p", "q"),))
        self.shaken("q", (), (("p", "q"),))
        self.still("p", (), (("p", None),))
        self.still("q", (), (("p", "q"), ("q", None)))

    def test_names_of_twelve_signs(self):
        longest = "z" * 12
        letters = pack(letter("a" * 12, (longest,)), letter("b" * 12, (longest, "a" * 12)))
        for name in (longest, "a" * 12, "b" * 12):
            self.shaken(name, letters)
        self.still("a" * 12, letters, ((longest, None),))

    def test_each_likely_new_name_is_borne(self):
        signs = string.ascii_lowercase + string.digits
        names = list(signs) + [one + other for one in signs for other in signs] + [str(at) for at in range(1000)]
        names += [sign * many for sign in signs for many in range(3, 13)]
        names += [f"{word}{at}" for word in ("new", "name", "x", "n", "p") for at in ["", *range(30)]]
        letters = pack(*[letter(name) for name in sorted(set(names) - {"p"})], letter("one0", ("p",)))
        self.shaken("one0", letters)
        self.shaken("p", letters)
        self.still("a", letters)

    def test_each_likely_new_name_is_an_empty_place(self):
        rows = [tuple(str(at + step) for step in range(9)) for at in range(0, 108, 9)]
        letters = pack(*[letter(f"a{at}", row) for at, row in enumerate(rows)])
        for name in places(letters, ()):
            self.shaken(name, letters)

    def settled(self, name, letters, marks):
        """As point 12 says it in brackets, walked plainly."""
        held = dict(marks)
        seen = []
        while name is not None and name not in seen:
            if borne(letters, name) is None and name not in held:
                return False
            seen.append(name)
            name = chosen(letters, marks, name)[0]
        return True

    def test_none_just_where_it_is_settled(self):
        dice = random.Random(3)
        told = {True: 0, False: 0}
        for _ in range(250):
            letters, marks = drawn_pack(dice), drawn_marks(dice)
            for name in places(letters, marks):
                settled = self.settled(name, letters, marks)
                told[settled] += 1
                if settled:
                    self.still(name, letters, marks)
                else:
                    self.shaken(name, letters, marks)
        self.assertGreater(min(told.values()), 200)

    def test_no_further_letters_change_a_settled_way(self):
        dice = random.Random(4)
        tried = 0
        for _ in range(120):
            letters, marks = drawn_pack(dice), drawn_marks(dice)
            known = {one[0] for one in letters}
            ways = {name: way(letters, marks, name) for name in places(letters, marks)}
            still = [name for name in ways if shaker(letters, marks, name) is None]
            for _ in range(8):
                more = [one for one in drawn_pack(dice, "abcdefgpqrst", "uv") if one[0] not in known]
                tried += len(still)
                for name in still:
                    self.assertEqual(way(put(letters, *more), marks, name), ways[name])
        self.assertGreater(tried, 1000)

    def test_small_rings_with_all_marks(self):
        letters = pack(letter("a", ("p", "b"), 2), letter("b", ("c", "p"), 1), letter("c", ("q", "a"), 1))
        for elder in itertools.product((None, "free", "a", "q"), repeat=2):
            marks = tuple((name, one) for name, one in zip("bp", elder) if one != "free")
            for name in places(letters, marks):
                if self.settled(name, letters, marks):
                    self.still(name, letters, marks)
                else:
                    self.shaken(name, letters, marks)


if __name__ == "__main__":
    unittest.main()
