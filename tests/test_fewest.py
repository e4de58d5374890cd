import itertools
import random
import unittest

from answertrees.fewest import fewest
from answertrees.forests import forest
from answertrees.hands import is_marks
from answertrees.rings import places
from answertrees.wishes import is_wish, wish_of
from tests.helper import asked, drawn_marks, drawn_pack, letter, numbered, pack


def all_marks(names, most):
    """All marks of at most so many names, whatever they hold."""
    for many in range(most + 1):
        for held in itertools.combinations(sorted(names), many):
            choices = [[None] + [elder for elder in names if elder != name] for name in held]
            for elders in itertools.product(*choices):
                marks = tuple(zip(held, elders))
                if is_marks(marks):
                    yield marks


def drawn_wish(dice, letters, names):
    """Trees by chance over the letters and some of the names."""
    bearers = sorted({one[0] for one in letters})
    above = {}
    for name in dice.sample(names, len(names)):
        above[name] = dice.choice([None] + list(above) * 2)
    shown = {}
    for name in bearers:
        while name is not None:
            shown[name] = above[name]
            name = above[name]
    return tuple(sorted(shown.items()))


class Case(unittest.TestCase):
    def told(self, letters, wish):
        self.assertIs(is_wish(letters, wish), True, wish)
        marks = asked(self, fewest, letters, wish)
        self.assertIs(is_marks(marks), True, marks)
        self.assertEqual(wish_of(forest(letters, marks, ())), wish, (letters, marks))
        return marks

    def tried(self, letters, wish, other=""):
        """What is told, where every smaller set of marks was tried."""
        marks = self.told(letters, wish)
        names = sorted(set(places(letters, wish)) | set(other))
        for fewer in all_marks(names, len(marks) - 1):
            self.assertNotEqual(wish_of(forest(letters, fewer, ())), wish, (letters, wish, fewer))
        return marks


class Without(Case):
    def test_no_letters(self):
        self.assertEqual(self.told((), ()), ())

    def test_the_pack_s_own_trees(self):
        dice = random.Random(51)
        for _ in range(300):
            letters = drawn_pack(dice)
            self.assertEqual(self.told(letters, wish_of(forest(letters, (), ()))), ())


class Trees(Case):
    LETTERS = pack(letter("a"), letter("b", ("a",)), letter("c", ("a", "b")))

    def test_one_moved(self):
        self.assertEqual(self.tried(self.LETTERS, (("a", None), ("b", "a"), ("c", "a"))), (("c", "a"),))
        self.assertEqual(self.tried(self.LETTERS, (("a", None), ("b", None), ("c", "b"))), (("b", None),))

    def test_some_moved(self):
        self.assertEqual(self.tried(self.LETTERS, (("a", "b"), ("b", None), ("c", None))), (("a", "b"), ("c", None)))
        self.assertEqual(self.tried(self.LETTERS, (("a", None), ("b", "c"), ("c", "a"))), (("b", "c"), ("c", "a")))

    def test_all_moved(self):
        wish = (("a", "x"), ("b", "x"), ("c", "x"), ("x", None))
        self.assertEqual(self.tried(self.LETTERS, wish), wish[:3])
        # Held so, the others lead from c, which answers b, round to it: c is cut without a hand.
        wish = (("a", "b"), ("b", "c"), ("c", None))
        self.assertEqual(self.tried(self.LETTERS, wish), wish[:2])

    def test_split_off(self):
        self.assertEqual(self.tried(self.LETTERS, (("a", None), ("b", None), ("c", None))), (("b", None), ("c", None)))

    def test_names_unknown_to_the_pack(self):
        wish = (("a", "x"), ("b", "a"), ("c", "y"), ("x", None), ("y", "x"))
        self.assertEqual(self.tried(self.LETTERS, wish), (("a", "x"), ("c", "y"), ("y", "x")))
        wish = (("a", None), ("b", "a"), ("c", "b"))
        self.assertEqual(self.tried(self.LETTERS, wish, "x"), ())

    def test_empty_places_left_out(self):
        letters = pack(letter("c", ("p", "q")))
        self.assertEqual(self.tried(letters, (("c", None),)), (("c", None),))
        self.assertEqual(self.tried(letters, (("c", "p"), ("p", None))), (("c", "p"),))
        self.assertEqual(self.tried(letters, (("c", "q"), ("q", None))), (("q", None),))
        self.assertEqual(self.tried(letters, (("c", "q"), ("p", None), ("q", "p"))), ())
        self.assertEqual(self.tried(letters, (("c", "p"), ("p", "q"), ("q", None))), (("c", "p"), ("p", "q")))

    def test_chains_of_empty_places(self):
        letters = pack(letter("z", ("p", "q", "r", "s")))
        chain = (("p", None), ("q", "p"), ("r", "q"), ("s", "r"), ("z", "s"))
        self.assertEqual(self.tried(letters, chain), ())
        self.assertEqual(self.tried(letters, (("r", None), ("s", "r"), ("z", "s"))), (("r", None),))
        self.assertEqual(self.tried(letters, (("p", None), ("s", "p"), ("z", "s"))), (("s", "p"),))
        self.assertEqual(self.tried(letters, (("p", "x"), ("s", "p"), ("x", None), ("z", "s"))), (("p", "x"), ("s", "p")))

    def test_letters_that_do_not_stand(self):
        letters = pack(letter("a"), letter("b", (), 1), letter("b", ("a",), 2))
        self.assertEqual(self.tried(letters, (("a", None), ("b", None))), ())
        self.assertEqual(self.tried(letters, (("a", None), ("b", "a"))), (("b", "a"),))

    def test_long_ones(self):
        names, letters = numbered(800)
        chain = tuple(zip(names, [None] + names[:-1]))
        self.assertEqual(self.told(letters, chain), ())
        upside_down = tuple(zip(names, names[1:] + [None]))
        self.assertEqual(self.told(letters, upside_down), upside_down[:-1])
        apart = tuple((name, None) for name in names)
        self.assertEqual(self.told(letters, apart), apart[1:])


class Rings(Case):
    def test_of_letters(self):
        ring = pack(letter("a", ("b",), 5), letter("b", ("c",), 3), letter("c", ("a",), 4))
        # The one of the least day is cut anyway.
        self.assertEqual(self.tried(ring, (("a", "b"), ("b", None), ("c", "a"))), ())
        self.assertEqual(len(self.tried(ring, (("a", "b"), ("b", "c"), ("c", None)))), 1)
        self.assertEqual(len(self.tried(ring, (("a", None), ("b", "c"), ("c", "a")))), 1)
        self.assertEqual(len(self.tried(ring, (("a", None), ("b", None), ("c", "a")))), 2)
        self.assertEqual(len(self.tried(ring, (("a", None), ("b", None), ("c", None)))), 3)

    def test_of_two_with_one_day(self):
        ring = pack(letter("a", ("b",)), letter("b", ("a",)))
        self.assertEqual(self.tried(ring, (("a", None), ("b", "a"))), ())
        self.assertEqual(len(self.tried(ring, (("a", "b"), ("b", None)))), 1)
        self.assertEqual(len(self.tried(ring, (("a", None), ("b", None)))), 2)

    def test_of_letters_and_empty_places(self):
        # c tells p under a, and a answers p.
        letters = pack(letter("a", ("p",)), letter("c", ("a", "p")))
        self.assertEqual(self.tried(letters, (("a", "p"), ("c", "p"), ("p", None))), ())
        self.assertEqual(len(self.tried(letters, (("a", None), ("c", "p"), ("p", "a")))), 1)
        self.assertEqual(len(self.tried(letters, (("a", None), ("c", "a")))), 2)
        # The lesser one of two empty places is cut.
        letters = pack(letter("a", ("p", "q")), letter("b", ("q", "p")))
        self.assertEqual(self.tried(letters, (("a", "q"), ("b", "p"), ("p", None), ("q", "p"))), ())
        self.assertEqual(len(self.tried(letters, (("a", "q"), ("b", "p"), ("p", "q"), ("q", None)))), 1)

    def test_an_empty_place_not_shown_in_the_ring(self):
        # Only p, cut, is told under q: q bears no letter and has none beneath.
        letters = pack(letter("a", ("p", "q"), 1), letter("b", ("q", "p"), 0))
        self.assertEqual(self.tried(letters, (("a", None), ("b", "p"), ("p", None))), (("a", None),))
        self.assertEqual(len(self.tried(letters, (("a", "q"), ("b", None), ("q", None)))), 2)

    def test_a_ring_that_hands_make(self):
        # Held under c as wished, b leads round: a, the elder in days, is cut where it isn't held.
        letters = pack(letter("a", ("b",), 1), letter("b", (), 0), letter("c", ("a",), 2))
        wish = (("a", None), ("b", "c"), ("c", "a"))
        self.assertEqual(self.tried(letters, wish), (("b", "c"),))
        letters = pack(letter("a", ("b",), 3), letter("b", (), 0), letter("c", ("a",), 2))
        self.assertEqual(len(self.tried(letters, wish)), 2)

    def test_several_rings(self):
        letters = pack(
            letter("a", ("b",), 1), letter("b", ("a",), 2), letter("c", ("d",), 2), letter("d", ("c",), 1),
            letter("e", ("f",)), letter("f", ("e",)))
        own = (("a", None), ("b", "a"), ("c", "d"), ("d", None), ("e", None), ("f", "e"))
        self.assertEqual(self.told(letters, own), ())
        other = (("a", "b"), ("b", None), ("c", None), ("d", "c"), ("e", None), ("f", "e"))
        self.assertEqual(len(self.tried(letters, other)), 2)
        # One tree of two rings: the roots of both are asked by themselves.
        joined = (("a", None), ("b", "a"), ("c", "d"), ("d", "b"), ("e", None), ("f", "e"))
        self.assertEqual(self.tried(letters, joined), (("d", "b"),))
        crossed = (("a", None), ("b", None), ("c", "d"), ("d", None), ("e", "f"), ("f", None))
        self.assertEqual(len(self.tried(letters, crossed)), 3)

    def test_two_wished_roots_of_one_ring(self):
        # Not held both, they lie in one ring and only one is cut.
        letters = pack(letter("a", ("d",), 0), letter("b", ("a",), 1), letter("c", ("b",), 0), letter("d", ("c",), 1))
        wish = (("a", None), ("b", "a"), ("c", None), ("d", "c"))
        self.assertEqual(len(self.tried(letters, wish)), 2)


class Drawn(Case):
    def test_every_smaller_set(self):
        dice = random.Random(52)
        sizes = {}
        for at in range(260):
            letters = drawn_pack(dice, "abc", "p" if at % 2 else "pq")
            if at % 3:
                wish = drawn_wish(dice, letters, "abcpx"[:4 + at % 2])
            else:
                wish = wish_of(forest(letters, drawn_marks(dice, "abcpq"), ()))
            if len(self.told(letters, wish)) <= 3:
                marks = self.tried(letters, wish)
                sizes[len(marks)] = sizes.get(len(marks), 0) + 1
        self.assertGreater(min(sizes.get(many, 0) for many in (0, 1, 2, 3)), 15)

    def test_rings_of_every_form(self):
        # Each of three letters answers another one, or a row of two: most of these go round.
        dice = random.Random(53)
        rows = [(one,) for one in "abcp"] + [(one, other) for one in "abcp" for other in "abcp"]
        saved = 0
        for _ in range(150):
            letters = pack(*[letter(name, dice.choice(rows), dice.randrange(3)) for name in "abc"])
            wish = drawn_wish(dice, letters, "abcp")
            marks = self.tried(letters, wish) if len(self.told(letters, wish)) < 4 else ()
            roots = [name for name, elder in wish if elder is None]
            saved += len([name for name in roots if (name, None) not in marks])
        self.assertGreater(saved, 50)

    def test_larger_ones(self):
        dice = random.Random(54)
        for _ in range(300):
            letters = drawn_pack(dice)
            wish = drawn_wish(dice, letters, "abcdefgpqrxy")
            marks = self.told(letters, wish)
            # Fewer by one: none of these alone can be left out.
            for at in range(len(marks)):
                self.assertNotEqual(wish_of(forest(letters, marks[:at] + marks[at + 1:], ())), wish)

    def test_of_marked_forests(self):
        # Never more hands than those that made the trees.
        dice = random.Random(55)
        for _ in range(400):
            letters, marks = drawn_pack(dice), drawn_marks(dice)
            found = self.told(letters, wish_of(forest(letters, marks, ())))
            self.assertLessEqual(len(found), len(marks))


if __name__ == "__main__":
    unittest.main()
