import random
import unittest

from answertrees.changes import changes
from answertrees.forests import forest
from tests.helper import RULES, asked, drawn_marks, drawn_pack, letter, pack, put


class Changes(unittest.TestCase):
    def told(self, before, behind):
        found = asked(self, changes, before, behind)
        # Exchanged, the two are exchanged in each.
        self.assertEqual(changes(behind, before), tuple((name, other, one) for name, one, other in found))
        return found

    def test_nothing_changed(self):
        trees = forest(pack(letter("a"), letter("b", ("a",))), (), ())
        self.assertEqual(self.told(trees, trees), ())
        self.assertEqual(self.told((), ()), ())

    def test_in_one_alone(self):
        trees = (("a", None, ("first",)), ("b", "a", ("own",)))
        self.assertEqual(self.told((), trees), (("a", None, (None, ("first",))), ("b", None, ("a", ("own",)))))
        self.assertEqual(self.told(trees, trees[:1]), (("b", ("a", ("own",)), None),))
        self.assertEqual(self.told(trees[1:], trees), (("a", None, (None, ("first",))),))

    def test_same_elder_other_reason(self):
        before = (("a", None, ("first",)), ("b", "a", ("told", "c", 1)))
        behind = (("a", None, ("hand",)), ("b", "a", ("told", "c", 2)))
        self.assertEqual(self.told(before, behind), (
            ("a", (None, ("first",)), (None, ("hand",))),
            ("b", ("a", ("told", "c", 1)), ("a", ("told", "c", 2)))))

    def test_other_elder_same_reason(self):
        before = (("a", None, ("first",)), ("b", "a", ("own",)), ("c", None, ("first",)))
        behind = (("a", None, ("first",)), ("b", "c", ("own",)), ("c", None, ("first",)))
        self.assertEqual(self.told(before, behind), (("b", ("a", ("own",)), ("c", ("own",))),))

    def test_rises(self):
        before = (("10", None, ("first",)), ("b", None, ("first",)))
        behind = (("9", None, ("first",)), ("a", None, ("first",)))
        self.assertEqual([row[0] for row in self.told(before, behind)], ["10", "9", "a", "b"])

    def test_of_a_letter_that_comes(self):
        letters = pack(letter("b", ("p", "a")))
        more = put(letters, letter("a", ("q",)))
        self.assertEqual(self.told(forest(letters, (), ()), forest(more, (), ())), (
            ("a", ("p", ("told", "b", 1)), ("q", ("own",))),
            ("p", (None, ("first",)), None),
            ("q", None, (None, ("first",)))))

    def test_exactly(self):
        # (g): with what is told, one forest becomes the other; each that is told is another.
        dice = random.Random(22)
        for _ in range(300):
            letters, marks = drawn_pack(dice), drawn_marks(dice)
            before = forest(letters, marks, RULES)
            behind = forest(dice.choice((letters, letters[1:], drawn_pack(dice))), drawn_marks(dice), RULES)
            ties = {row[0]: row[1:] for row in before}
            found = self.told(before, behind)
            self.assertEqual([row[0] for row in found], sorted(row[0] for row in found))
            for name, one, other in found:
                self.assertNotEqual(one, other)
                self.assertEqual(ties.pop(name, None), one)
                if other is not None:
                    ties[name] = other
            self.assertEqual(tuple((name, *ties[name]) for name in sorted(ties)), behind)


if __name__ == "__main__":
    unittest.main()
