import random
import unittest

from answertrees.elders import standing
from answertrees.rings import by_names
from answertrees.voices import voices
from answertrees.ways import way
from tests.helper import asked, drawn_marks, drawn_pack, letter, numbered, pack


class Voices(unittest.TestCase):
    def voices(self, letters, marks=()):
        return asked(self, voices, letters, marks)

    def test_of_nothing(self):
        self.assertEqual(self.voices(()), ())

    def test_root_with_a_letter(self):
        letters = pack(letter("c", (), 9), letter("a", ("c",), 1), letter("b", ("c",), 0))
        self.assertEqual(self.voices(letters), (("c", "c"),))

    def test_empty_root(self):
        letters = pack(letter("a", ("p",), 5), letter("b", ("p",), 4), letter("c", ("b",), 6))
        self.assertEqual(self.voices(letters), (("p", "b"),))
        letters = pack(letter("a", ("p",), 10), letter("b", ("p",), 9))
        self.assertEqual(self.voices(letters), (("p", "b"),))

    def test_deepest_of_the_whole_tree(self):
        letters = pack(letter("a", ("p",), 5), letter("b", ("a",), 4), letter("c", ("b",), 3), letter("d", ("c",), 7))
        self.assertEqual(self.voices(letters), (("p", "c"),))
        names, letters = numbered(700)
        letters = tuple((name, 900 - at, head, row) for at, (name, day, head, row) in enumerate(letters) if at)
        self.assertEqual(self.voices(letters), ((names[0], names[-1]),))

    def test_alike_days(self):
        letters = pack(letter("d", ("p",), 4), letter("b", ("d",), 4), letter("c", ("b",), 4), letter("a", ("p",), 5))
        self.assertEqual(self.voices(letters), (("p", "b"),))

    def test_several_trees_rise_by_roots(self):
        letters = pack(letter("a", ("z",)), letter("m"), letter("n", ("b", "c"), 2), letter("o", ("b",), 1))
        self.assertEqual(self.voices(letters), (("b", "o"), ("m", "m"), ("z", "a")))

    def test_trees_without_a_letter(self):
        marks = (("k", "m"), ("s", None))
        self.assertEqual(self.voices((), marks), ())
        self.assertEqual(self.voices(pack(letter("a")), marks), (("a", "a"),))
        self.assertEqual(self.voices(pack(letter("k")), marks), (("m", "k"),))

    def test_roots_by_hands(self):
        letters = pack(letter("a", ("p",), 5), letter("b", ("a",), 4))
        self.assertEqual(self.voices(letters, (("a", None),)), (("a", "a"),))
        self.assertEqual(self.voices(letters, (("p", None),)), (("p", "b"),))
        self.assertEqual(self.voices(letters, (("b", None),)), (("b", "b"), ("p", "a")))

    def test_roots_cut_out_of_a_ring(self):
        letters = pack(letter("a", ("b",), 2), letter("b", ("a",), 1), letter("c", ("a",), 0))
        self.assertEqual(self.voices(letters), (("b", "b"),))
        # p is cut, and bears no letter: the least day of the tree speaks.
        letters = pack(letter("a", ("p",), 5), letter("c", ("a", "p"), 3))
        self.assertEqual(self.voices(letters), (("p", "c"),))

    def test_a_name_in_two_letters(self):
        letters = pack(letter("a", ("p",), 5), letter("b", ("p",), 6), letter("b", ("q",), 7))
        self.assertEqual(self.voices(letters), (("p", "a"),))

    def test_as_a_plain_walk_tells(self):
        dice = random.Random(13)
        for _ in range(300):
            letters, marks = drawn_pack(dice), drawn_marks(dice)
            days = {one[0]: one[1] for one in standing(letters)}
            expected = []
            for root, elder, reason in by_names(letters, marks):
                tree = [name for name in days if way(letters, marks, name)[-1] == root]
                if elder is None and tree:
                    expected.append((root, root if root in days else min((days[name], name) for name in tree)[1]))
            self.assertEqual(self.voices(letters, marks), tuple(expected))


if __name__ == "__main__":
    unittest.main()
