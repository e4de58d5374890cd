import itertools
import random
import unittest

from answertrees.forests import forest
from answertrees.groves import is_reads
from answertrees.hands import is_marks
from answertrees.letters import is_pack
from answertrees.logs import marks_of, pack_of, reads_of
from tests.helper import asked, done, letter

ONE = letter("a", (), 1)
OTHER = letter("a", ("b",), 0)
THIRD = letter("c", (), 5, "Walls")


class Case(unittest.TestCase):
    def told(self, log):
        return asked(self, pack_of, log), asked(self, marks_of, log), asked(self, reads_of, log)


class Empty(Case):
    def test_empty_log(self):
        self.assertEqual(self.told(()), ((), (), ()))

    def test_all_taken_back(self):
        log = tuple((deed, False) for deed in (("come", ONE), ("join", "a", "b"), ("split", "c"), ("read", "a")))
        self.assertEqual(self.told(log), ((), (), ()))


class Packs(Case):
    def test_come_and_go(self):
        self.assertEqual(pack_of(done(("come", ONE))), (ONE,))
        self.assertEqual(pack_of(done(("come", ONE), ("go", ONE))), ())
        self.assertEqual(pack_of(done(("go", ONE), ("come", ONE))), (ONE,))
        self.assertEqual(pack_of(done(("go", ONE))), ())
        self.assertEqual(pack_of(done(("come", ONE), ("come", ONE))), (ONE,))
        self.assertEqual(pack_of(done(("come", ONE), ("go", ONE), ("come", ONE))), (ONE,))

    def test_two_letters_of_one_name(self):
        self.assertEqual(pack_of(done(("come", ONE), ("come", OTHER))), (OTHER, ONE))
        self.assertEqual(pack_of(done(("come", ONE), ("come", OTHER), ("go", OTHER))), (ONE,))
        self.assertEqual(pack_of(done(("come", ONE), ("go", OTHER))), (ONE,))

    def test_taken_back(self):
        self.assertEqual(pack_of(((("come", ONE), True), (("go", ONE), False))), (ONE,))
        self.assertEqual(pack_of(((("come", ONE), False), (("come", THIRD), True))), (THIRD,))
        self.assertEqual(pack_of(((("come", ONE), True), (("go", ONE), True), (("come", ONE), False))), ())
        self.assertEqual(pack_of(((("come", ONE), False), (("go", ONE), False), (("come", ONE), True))), (ONE,))

    def test_rises(self):
        letters = [letter("b", (), 10), letter("b", (), 9), letter("a", ("z",)), letter("a", ("b", "c")), THIRD]
        for order in itertools.permutations(letters):
            found = pack_of(done(*[("come", one) for one in order]))
            self.assertEqual(found, tuple(sorted(letters)))
            self.assertTrue(is_pack(found))


class Marks(Case):
    def test_by_turns(self):
        deeds = (("join", "a", "b"), ("split", "a"), ("free", "a"), ("join", "a", "c"))
        expected = ((("a", "b"),), (("a", None),), (), (("a", "c"),))
        for many in (1, 2, 3):
            for order in itertools.product(range(4), repeat=many):
                log = done(*[deeds[at] for at in order])
                self.assertEqual(asked(self, marks_of, log), expected[order[-1]])

    def test_taken_back(self):
        log = ((("join", "a", "b"), True), (("split", "a"), True), (("free", "a"), False))
        self.assertEqual(marks_of(log), (("a", None),))
        log = ((("join", "a", "b"), True), (("split", "a"), False), (("free", "a"), False))
        self.assertEqual(marks_of(log), (("a", "b"),))
        self.assertEqual(marks_of(((("join", "a", "b"), False), (("join", "c", "b"), True))), (("c", "b"),))

    def test_each_name_by_itself(self):
        log = done(("join", "c", "b"), ("split", "b"), ("join", "a", "z"), ("free", "z"), ("split", "9"), ("free", "c"))
        self.assertEqual(asked(self, marks_of, log), (("9", None), ("a", "z"), ("b", None)))

    def test_with_a_ring(self):
        log = done(("join", "a", "b"), ("join", "b", "a"))
        self.assertEqual(asked(self, marks_of, log), (("a", "b"), ("b", "a")))
        self.assertFalse(is_marks(marks_of(log)))


class ReadOnes(Case):
    def test_by_turns(self):
        self.assertEqual(reads_of(done(("read", "b"), ("read", "a"))), ("a", "b"))
        self.assertEqual(reads_of(done(("read", "a"), ("unread", "a"))), ())
        self.assertEqual(reads_of(done(("unread", "a"), ("read", "a"))), ("a",))
        self.assertEqual(reads_of(done(("read", "a"), ("unread", "b"), ("read", "10"), ("read", "9"))), ("10", "9", "a"))
        self.assertEqual(reads_of(((("read", "a"), True), (("unread", "a"), False))), ("a",))
        self.assertEqual(reads_of(((("read", "a"), False), (("read", "b"), True))), ("b",))


class Apart(Case):
    def test_things_of_one_name(self):
        log = done(("come", ONE), ("join", "a", "b"), ("read", "a"))
        self.assertEqual(self.told(log), ((ONE,), (("a", "b"),), ("a",)))
        log += done(("unread", "a"))
        self.assertEqual(self.told(log), ((ONE,), (("a", "b"),), ()))
        log += done(("free", "a"))
        self.assertEqual(self.told(log), ((ONE,), (), ()))
        log += done(("go", ONE))
        self.assertEqual(self.told(log), ((), (), ()))


class Whole(Case):
    def plain(self, log):
        """What each thing's last standing deed tells, looked for from the end."""
        packs, marks, reads = set(), set(), set()
        seen = set()
        for deed, stands in reversed(log):
            kind = {"come": 0, "go": 0, "read": 1, "unread": 1}.get(deed[0], 2)
            if stands and (kind, deed[1]) not in seen:
                seen.add((kind, deed[1]))
                if deed[0] == "come":
                    packs.add(deed[1])
                if deed[0] == "join":
                    marks.add(deed[1:])
                if deed[0] == "split":
                    marks.add((deed[1], None))
                if deed[0] == "read":
                    reads.add(deed[1])
        return tuple(sorted(packs)), tuple(sorted(marks)), tuple(sorted(reads))

    def drawn_log(self, dice):
        deeds = [("come", one) for one in (ONE, OTHER, THIRD)] + [("go", one) for one in (ONE, OTHER, THIRD)]
        deeds += [(word, name) for word in ("split", "free", "read", "unread") for name in "abc"]
        deeds += [("join", one, other) for one in "abc" for other in "abcd" if one != other]
        return tuple((dice.choice(deeds), dice.random() < 0.7) for _ in range(dice.randrange(30)))

    def test_drawn_ones(self):
        dice = random.Random(21)
        for _ in range(400):
            log = self.drawn_log(dice)
            packs, marks, reads = self.told(log)
            self.assertEqual((packs, marks, reads), self.plain(log))
            self.assertTrue(is_pack(packs) and is_reads(reads))
            # Taken back is as never done.
            self.assertEqual(self.told(tuple(entry for entry in log if entry[1])), (packs, marks, reads))
            if is_marks(marks):
                self.assertEqual(forest(packs, marks, ()), forest(*self.plain(log)[:2], ()))


if __name__ == "__main__":
    unittest.main()
