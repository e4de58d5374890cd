import itertools
import random
import unittest
from reprlib import repr as short

from answertrees.forests import forest
from answertrees.wishes import is_wish, wish_of
from tests.helper import RULES, asked, drawn_marks, drawn_pack, letter, odd_things, pack

TWO = pack(letter("a"), letter("b", ("a",)))


def plainly(letters, wish):
    """Whether a wish, told as a dict, is one: by walks alone."""
    beneath = set()
    for name in {one[0] for one in letters}:
        passed = []
        while name is not None:
            if name not in wish or name in passed:
                return False
            passed.append(name)
            name = wish[name]
        beneath |= set(passed)
    return beneath == set(wish)


class IsWish(unittest.TestCase):
    def holds(self, letters, *things):
        for thing in things:
            self.assertIs(asked(self, is_wish, letters, thing), True, thing)

    def fails(self, letters, *things):
        for thing in things:
            self.assertIs(asked(self, is_wish, letters, thing), False, thing)

    def test_without_letters(self):
        self.holds((), ())
        self.fails((), (("a", None),), (("a", None), ("b", "a")))

    def test_wishes(self):
        self.holds(TWO, (("a", None), ("b", "a")), (("a", "b"), ("b", None)), (("a", None), ("b", None)))
        self.holds(TWO, (("a", "c"), ("b", "c"), ("c", None)), (("a", None), ("b", "c"), ("c", "a")))
        # Names unknown to the pack, one above another.
        self.holds(TWO, (("0", "x"), ("a", None), ("b", "0"), ("x", "zzz"), ("zzz", None)))

    def test_rising(self):
        self.fails(TWO, (("b", "a"), ("a", None)), (("a", None), ("c", None), ("b", "c")), (("b", None), ("a", None)))

    def test_a_name_twice(self):
        self.fails(TWO, (("a", None), ("a", None), ("b", "a")), (("a", None), ("b", "a"), ("b", "a")))
        self.fails(TWO, (("a", None), ("a", "b"), ("b", None)), (("a", None), ("b", None), ("b", "a")))

    def test_rings(self):
        self.fails(TWO, (("a", "b"), ("b", "a")), (("a", "b"), ("b", "c"), ("c", "a")))
        self.fails(TWO, (("a", "c"), ("b", None), ("c", "d"), ("d", "c")))
        # A ring beside the letters.
        self.fails(TWO, (("a", None), ("b", "a"), ("c", "d"), ("d", "c")))

    def test_an_elder_that_is_none_of_its_names(self):
        self.fails(TWO, (("a", None), ("b", "c")), (("a", "z"), ("b", "a")), (("a", "c"), ("b", "c"), ("c", "d")))

    def test_its_own_name_as_elder(self):
        self.fails(TWO, (("a", "a"), ("b", "a")), (("a", None), ("b", "b")), (("a", None), ("b", "c"), ("c", "c")))

    def test_a_letter_s_name_missing(self):
        self.fails(TWO, (), (("a", None),), (("b", None),), (("b", "c"), ("c", None)), (("c", None),))

    def test_empty_places(self):
        self.holds(TWO, (("a", None), ("b", "c"), ("c", None)))
        self.fails(TWO, (("a", None), ("b", "a"), ("c", None)), (("a", None), ("b", "a"), ("c", "a")))
        self.fails(TWO, (("a", "c"), ("b", "a"), ("c", None), ("d", "c")))
        self.fails(TWO, (("a", None), ("b", "a"), ("c", "d"), ("d", None)))
        # A place in somebody's row need not be in it, and alone isn't enough.
        named = pack(letter("a", ("p",)))
        self.holds(named, (("a", None),), (("a", "p"), ("p", None)))
        self.fails(named, (("a", None), ("p", None)))

    def test_letters_that_do_not_stand(self):
        twice = pack(letter("a", (), 1), letter("a", ("b",), 2))
        self.holds(twice, (("a", None),), (("a", "b"), ("b", None)))
        self.fails(twice, (("a", None), ("b", None)))

    def test_names_that_are_none(self):
        for thing in ("", "A", "a b", "z" * 13, "-", "a\n", 1, ("a",), b"c"):
            self.fails(TWO, (("a", None), ("b", "a"), (thing, "a")), (("a", thing), ("b", "a")))
            self.fails(TWO, ((thing, None), ("a", thing), ("b", None)), (("a", thing), ("b", None), (thing, None)))
        self.fails(TWO, (("a", None), ("b", "a"), (None, "a")), ((None, None), ("a", None), ("b", "a")))

    def test_parts(self):
        self.fails(TWO, (("a",), ("b", "a")), (("a", None, None), ("b", "a")), (("a", None), ("b", "a", ("own",))), (
            ("a", None), ("b", "a"), ()), ("a", "b"), (("a", None), "ba"), "ab", forest(TWO, (), ()))

    def test_lists_in_the_place_of_tuples(self):
        self.fails(TWO, [("a", None), ("b", "a")], (["a", None], ("b", "a")), (("a", None), ["b", "a"]))
        self.fails(TWO, {"a": None, "b": "a"}, (("a", None), ("b", ["a"])), (("a", None), ("b", ("a",))))
        self.fails((), [], {}, set(), "", None, False, 0)

    def test_anything(self):
        for thing in odd_things():
            for letters in ((), TWO):
                self.assertIs(is_wish(letters, thing), False, short(thing))
                self.assertIs(is_wish(letters, (thing,)), False, short(thing))
                self.assertIs(is_wish(letters, (("a", None), ("b", thing))), thing is None and letters == TWO, short(thing))
                self.assertIs(is_wish(letters, ((thing, None), ("b", "a"))), False, short(thing))
                self.assertIs(is_wish(letters, (("a", None), ("b", "a"), thing)), False, short(thing))

    def test_each_of_four_names(self):
        packs = ((), pack(letter("a")), TWO, pack(letter("c", ("d",)), letter("a", ("c", "b"))))
        for elders in itertools.product(("", None, "a", "b", "c", "d"), repeat=4):
            wish = {name: elder for name, elder in zip("abcd", elders) if elder != ""}
            fits = all(elder is None or elder in wish and elder != name for name, elder in wish.items())
            for letters in packs:
                expected = fits and plainly(letters, wish)
                self.assertIs(is_wish(letters, tuple(wish.items())), expected, (letters, wish))

    def test_long_ones(self):
        names = [f"n{at:04}" for at in range(3000)]
        chain = tuple(zip(names, [None] + names[:-1]))
        self.assertIs(is_wish((letter(names[-1]),), chain), True)
        self.assertIs(is_wish((letter(names[-2]),), chain), False)


class WishOf(unittest.TestCase):
    def test_of_none(self):
        self.assertEqual(asked(self, wish_of, ()), ())

    def test_names_and_elders(self):
        letters = pack(letter("a", (), 1, "Walls"), letter("b", ("q",), 2), letter("c", (), 3, "re: walls"))
        self.assertEqual(asked(self, wish_of, forest(letters, (), ())), (
            ("a", None), ("b", "q"), ("c", None), ("q", None)))
        self.assertEqual(asked(self, wish_of, forest(letters, (), RULES)), (
            ("a", None), ("b", "q"), ("c", "a"), ("q", None)))
        self.assertEqual(asked(self, wish_of, forest(letters, (("c", None), ("q", "a")), RULES)), (
            ("a", None), ("b", "q"), ("c", None), ("q", "a")))

    def test_of_a_cut_ring(self):
        letters = pack(letter("a", ("b",)), letter("b", ("a",)))
        self.assertEqual(wish_of(forest(letters, (), ())), (("a", None), ("b", "a")))

    def test_forests_are_wishes(self):
        dice = random.Random(41)
        for _ in range(200):
            letters, marks = drawn_pack(dice), drawn_marks(dice)
            for rules in ((), RULES):
                trees = forest(letters, marks, rules)
                self.assertEqual(wish_of(trees), tuple(row[:2] for row in trees))
                self.assertIs(is_wish(letters, wish_of(trees)), True)


if __name__ == "__main__":
    unittest.main()
