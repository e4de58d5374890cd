import itertools
import random
import unittest
from reprlib import repr as short

from answertrees.boxes import Box, opened
from answertrees.changes import changes
from answertrees.errors import NoDeed, Ring, TalkError
from answertrees.forests import forest
from answertrees.groves import Grove
from answertrees.hands import is_marks
from answertrees.logs import marks_of, pack_of, reads_of
from tests.helper import DEEDS, NO_DEEDS, RULES, asked, done, drawn_deed, drawn_pack, letter, odd_things, pack

A = letter("a", (), 3, "Walls")
B = letter("b", ("a",), 4, "Re: walls")
FIRST = (None, ("first",))
HAND = (None, ("hand",))


def state(box):
    """All that a box tells of itself."""
    grove = box.grove()
    sums = tuple(grove.counts(name) for name in grove.talks())
    return box.log(), box.pack(), box.marks(), box.reads(), grove.ties(), grove.whole(), grove.empties(), sums


def box_of(*deeds, rules=()):
    box = Box(rules)
    for deed in deeds:
        box.do(deed)
    return box


class Case(unittest.TestCase):
    def refused(self, error, box, ask, *things):
        """The refusal is of this very class, and nothing changes."""
        before = state(box)
        for _ in range(2):
            with self.assertRaises(TalkError) as caught:
                ask(*things)
            self.assertIs(caught.exception.__class__, error, [short(thing) for thing in things])
        self.assertEqual(state(box), before)

    def agrees(self, box, rules=()):
        """A box tells just what comes of its log."""
        log = box.log()
        letters, marks, reads = pack_of(log), marks_of(log), reads_of(log)
        self.assertEqual((box.pack(), box.marks(), box.reads()), (letters, marks, reads))
        grove, plain = box.grove(), Grove(letters, marks, rules, reads)
        self.assertIsInstance(grove, Grove)
        self.assertEqual(grove.ties(), forest(letters, marks, rules))
        self.assertEqual(grove.whole(), plain.whole())
        for depth, name in plain.whole():
            self.assertEqual(grove.counts(name), plain.counts(name))
            self.assertEqual(grove.who(name), plain.who(name))


class Do(Case):
    def test_empty(self):
        box = Box(())
        self.assertEqual(state(box), ((), (), (), (), (), (), (), ()))
        self.assertEqual(state(Box(RULES)), state(box))

    def test_each_deed(self):
        box = Box(())
        told = [box.do(deed) for deed in (
            ("come", A), ("come", B), ("join", "b", "c"), ("split", "b"), ("free", "b"), ("read", "a"), ("unread", "a"),
            ("go", A))]
        self.assertEqual(told, [
            (("a", None, FIRST),),
            (("b", None, ("a", ("own",))),),
            (("b", ("a", ("own",)), ("c", ("hand",))), ("c", None, FIRST)),
            (("b", ("c", ("hand",)), HAND), ("c", FIRST, None)),
            (("b", HAND, ("a", ("own",))),),
            (),
            (),
            (),
        ])
        self.assertEqual(box.pack(), (B,))
        self.assertEqual([deed for deed, stands in box.log()], [
            ("come", A), ("come", B), ("join", "b", "c"), ("split", "b"), ("free", "b"), ("read", "a"), ("unread", "a"),
            ("go", A)])
        self.assertTrue(all(stands is True for deed, stands in box.log()))
        self.agrees(box)

    def test_what_each_deed_leaves(self):
        for deed in DEEDS:
            box = Box(())
            box.do(deed)
            self.assertEqual(box.log(), ((deed, True),))
            self.agrees(box)

    def test_no_deeds(self):
        for box in (Box(()), box_of(("come", A), ("come", B), ("join", "b", "c"), ("read", "a"))):
            for thing in list(NO_DEEDS) + odd_things() + [("split", thing) for thing in odd_things()]:
                self.refused(NoDeed, box, box.do, thing)

    def test_nothing_handed_in_is_changed(self):
        deeds = [("come", A), ("join", "a", "b"), ["come", A], {"come": A}]
        kept = [("come", A), ("join", "a", "b"), ["come", A], {"come": A}]
        box = Box(RULES)
        for deed in deeds:
            try:
                box.do(deed)
            except NoDeed:
                pass
        self.assertEqual(deeds, kept)
        self.assertEqual(len(box.log()), 2)

    def test_rings(self):
        box = box_of(("come", A), ("join", "a", "b"))
        self.refused(Ring, box, box.do, ("join", "b", "a"))
        self.refused(NoDeed, box, box.do, ("join", "a", "a"))
        box.do(("join", "b", "c"))
        self.refused(Ring, box, box.do, ("join", "c", "a"))
        self.refused(Ring, box, box.do, ("join", "c", "b"))
        self.refused(NoDeed, box, box.do, ["join", "c", "a"])
        box.do(("split", "b"))
        # Split off in between, they go round no longer.
        box.do(("join", "c", "a"))
        self.refused(Ring, box, box.do, ("join", "b", "c"))
        box.do(("join", "c", "d"))
        box.do(("join", "b", "c"))
        self.assertEqual(box.marks(), (("a", "b"), ("b", "c"), ("c", "d")))
        box.do(("free", "b"))
        box.do(("join", "c", "a"))
        self.refused(Ring, box, box.do, ("join", "b", "a"))

    def test_a_ring_of_letters_is_no_ring_of_hands(self):
        box = box_of(("come", letter("a", ("b",))), ("come", letter("b", ("a",))))
        self.assertEqual(box.do(("join", "a", "b"))[0][0], "a")
        self.refused(Ring, box, box.do, ("join", "b", "a"))

    def test_a_join_over_another_one(self):
        # The name's own hand is the last one alone: the ring of the earlier one is none.
        box = box_of(("join", "a", "b"), ("join", "a", "c"))
        self.assertEqual(box.do(("join", "b", "a")), ())
        self.assertEqual(box.marks(), (("a", "c"), ("b", "a")))


class Told(Case):
    def test_comes_twice(self):
        box = box_of(("come", A))
        self.assertEqual(box.do(("come", A)), ())
        self.assertEqual((box.pack(), len(box.log())), ((A,), 2))
        self.assertEqual(box.do(("go", A)), (("a", FIRST, None),))

    def test_another_letter_of_the_name(self):
        less = letter("a", ("z",), 1)
        box = box_of(("come", A))
        self.assertEqual(box.do(("come", less)), (("a", FIRST, ("z", ("own",))), ("z", None, FIRST)))
        self.assertEqual(box.do(("come", letter("a", ("y",), 9))), ())
        self.assertEqual(box.do(("go", A)), ())
        self.assertEqual(box.do(("go", less)), (
            ("a", ("z", ("own",)), ("y", ("own",))), ("y", None, FIRST), ("z", FIRST, None)))

    def test_goes_ahead_of_coming(self):
        box = Box(())
        self.assertEqual(box.do(("go", A)), ())
        self.assertEqual(box.do(("come", A)), (("a", None, FIRST),))
        self.assertEqual(box.pack(), (A,))

    def test_goes(self):
        box = box_of(("come", A), ("come", letter("c", ("b", "a"))), ("come", B))
        # The place of a stays, empty; c tells it under b, which answers a.
        self.assertEqual(box.do(("go", A)), (("a", FIRST, (None, ("ring", ("a", "b")))),))
        self.assertEqual(box.do(("go", B)), (
            ("a", (None, ("ring", ("a", "b"))), ("b", ("told", "c", 1))), ("b", ("a", ("own",)), FIRST)))
        self.assertEqual(box.do(("go", box.pack()[0])), (
            ("a", ("b", ("told", "c", 1)), None), ("b", FIRST, None), ("c", ("a", ("own",)), None)))
        self.assertEqual(box.grove().ties(), ())

    def test_hands_on_names_not_shown(self):
        box = Box(())
        for deed in (("join", "p", "q"), ("split", "r"), ("free", "p"), ("free", "zz"), ("join", "r", "p")):
            self.assertEqual(box.do(deed), ())
        self.assertEqual(box.marks(), (("r", "p"),))
        self.assertEqual(box.do(("come", letter("r"))), (("p", None, FIRST), ("r", None, ("p", ("hand",)))))

    def test_same_elder_other_reason(self):
        box = box_of(("come", A), ("come", B))
        self.assertEqual(box.do(("join", "b", "a")), (("b", ("a", ("own",)), ("a", ("hand",))),))
        self.assertEqual(box.do(("join", "b", "a")), ())
        self.assertEqual(box.do(("split", "a")), (("a", FIRST, HAND),))

    def test_readings(self):
        box = box_of(("come", A), ("come", B))
        for word, name, reads in (("read", "b", ("b",)), ("read", "zz", ("b", "zz")), ("unread", "b", ("zz",))):
            ties = box.grove().ties()
            self.assertEqual(box.do((word, name)), ())
            self.assertEqual(box.reads(), reads)
            self.assertEqual(box.grove().ties(), ties)
        self.assertEqual(box.grove().counts("a"), (2, 2, 4))
        box.do(("read", "a"))
        self.assertEqual(box.grove().counts("a"), (2, 1, 4))

    def test_by_heads(self):
        other = letter("c", (), 9, "RE: Walls")
        box = box_of(("come", other), rules=RULES)
        self.assertEqual(box.do(("come", A)), (("a", None, FIRST), ("c", FIRST, ("a", ("heads", "walls")))))
        self.assertEqual(box.do(("split", "c")), (("c", ("a", ("heads", "walls")), HAND),))
        self.assertEqual(box.back(2), (("c", HAND, ("a", ("heads", "walls"))),))
        plain = box_of(("come", other))
        self.assertEqual(plain.do(("come", A)), (("a", None, FIRST),))


class BackAndAgain(Case):
    def test_numbers_that_are_none(self):
        empty = Box(())
        box = box_of(("come", A), ("come", B))
        box.back(1)
        for thing in (-1, -2, 2, 3, 10 ** 30, -10 ** 30, True, False, None, "0", "", [0], (0,), {0: 0}, b"0"):
            self.refused(NoDeed, box, box.back, thing)
            self.refused(NoDeed, box, box.again, thing)
        for thing in (0, 1, -1, True, False, None):
            self.refused(NoDeed, empty, empty.back, thing)
            self.refused(NoDeed, empty, empty.again, thing)
        for thing in odd_things():
            if not isinstance(thing, int):
                self.refused(NoDeed, box, box.back, thing)
                self.refused(NoDeed, box, box.again, thing)

    def test_what_is_so_already(self):
        box = box_of(("come", A))
        self.refused(NoDeed, box, box.again, 0)
        self.assertEqual(box.back(0), (("a", FIRST, None),))
        self.refused(NoDeed, box, box.back, 0)
        self.assertEqual(box.log(), ((("come", A), False),))
        self.assertEqual(box.again(0), (("a", None, FIRST),))
        self.refused(NoDeed, box, box.again, 0)
        self.assertEqual(box.log(), ((("come", A), True),))

    def test_a_deed_that_is_not_the_last_of_its_thing(self):
        box = box_of(("come", A), ("join", "a", "b"), ("join", "a", "c"), ("read", "a"), ("unread", "a"), ("come", A))
        for number in (0, 1, 3):
            self.assertEqual(box.back(number), ())
            self.assertEqual(box.log()[number][1], False)
        self.assertEqual((box.pack(), box.marks(), box.reads()), ((A,), (("a", "c"),), ()))
        self.assertEqual(box.back(2), (("a", ("c", ("hand",)), FIRST), ("c", FIRST, None)))
        self.assertEqual(box.again(1), (("a", FIRST, ("b", ("hand",))), ("b", None, FIRST)))
        self.assertEqual(box.again(3), ())
        self.assertEqual(box.reads(), ())
        self.assertEqual(box.back(4), ())
        self.assertEqual(box.reads(), ("a",))
        self.assertEqual(box.back(5), (("a", ("b", ("hand",)), None), ("b", FIRST, None)))

    def test_the_place_in_the_log_counts(self):
        # Put back again a deed stands where it stood, not behind the last one.
        box = box_of(("split", "a"), ("come", A), ("join", "a", "b"))
        box.back(0)
        box.again(0)
        self.assertEqual(box.marks(), (("a", "b"),))
        box.back(2)
        self.assertEqual(box.marks(), (("a", None),))

    def test_back_of_a_free_that_makes_a_ring(self):
        box = box_of(("come", A), ("join", "a", "b"), ("free", "a"), ("join", "b", "a"))
        self.refused(Ring, box, box.back, 2)
        self.refused(NoDeed, box, box.again, 2)
        box.back(3)
        box.back(2)
        self.refused(Ring, box, box.again, 3)
        self.refused(NoDeed, box, box.back, 3)
        self.refused(Ring, box, box.do, ("join", "b", "a"))

    def test_again_of_a_join_that_makes_a_ring(self):
        box = box_of(("join", "a", "b"), ("join", "b", "c"))
        box.back(0)
        box.do(("join", "c", "a"))
        self.refused(Ring, box, box.again, 0)
        self.refused(NoDeed, box, box.back, 0)
        self.refused(NoDeed, box, box.again, 3)
        box.do(("split", "a"))
        # Behind it stands a later hand on the same name: the join put back again isn't its last one.
        self.assertEqual(box.again(0), ())
        self.refused(Ring, box, box.back, 3)

    def test_back_of_a_split_that_makes_a_ring(self):
        box = box_of(("join", "a", "b"), ("split", "a"), ("join", "b", "a"))
        self.refused(Ring, box, box.back, 1)


class Whole(Case):
    def test_a_grove_taken_earlier(self):
        box = box_of(("come", A), ("come", B))
        grove = box.grove()
        ties, whole, counts = grove.ties(), grove.whole(), grove.counts("a")
        box.do(("split", "b"))
        box.do(("read", "a"))
        box.do(("come", letter("c", ("b",))))
        box.back(0)
        self.assertEqual((grove.ties(), grove.whole(), grove.counts("a")), (ties, whole, counts))
        self.assertEqual(grove.upward("b"), ("b", "a"))
        self.assertNotEqual(box.grove().ties(), ties)

    def test_beside_one_another(self):
        one, other = Box(()), Box(RULES)
        one.do(("come", A))
        kept = state(one)
        self.assertEqual(state(other), state(Box(())))
        other.do(("come", B))
        other.do(("join", "b", "q"))
        other.do(("read", "b"))
        self.assertEqual(state(one), kept)
        self.assertEqual(other.pack(), (B,))
        twin = opened((), one.log())
        twin.back(0)
        self.assertEqual(state(one), kept)

    def test_in_whatever_order_letters_come(self):
        letters = (A, B, letter("c", ("d", "b")), letter("d", ("c",)), letter("a", ("b",), 3, "Walls"))
        expected = None
        for order in itertools.permutations(letters):
            box = box_of(*[("come", one) for one in order], rules=RULES)
            expected = expected or state(box)[1:]
            self.assertEqual(state(box)[1:], expected)
        self.assertEqual(expected[0], pack(*letters))

    def drawn_turn(self, dice, box, letters):
        """A deed, or one taken back or put again, by chance; (method, thing)."""
        many = len(box.log())
        if many and dice.random() < 0.4:
            return dice.choice((box.back, box.again)), dice.randrange(many)
        return box.do, drawn_deed(dice, letters, "abcpq")

    def expected_log(self, box, ask, thing):
        """The log as it ought to be afterwards, or the refusal."""
        log = list(box.log())
        if ask == box.do:
            log.append((thing, True))
        elif log[thing][1] is (ask == box.again):
            return NoDeed
        else:
            log[thing] = (log[thing][0], not log[thing][1])
        return tuple(log) if is_marks(marks_of(log)) else Ring

    def test_drawn_turns(self):
        dice = random.Random(31)
        refusals = {NoDeed: 0, Ring: 0}
        for _ in range(60):
            rules = dice.choice(((), RULES))
            letters = drawn_pack(dice) or (A,)
            box = Box(rules)
            for _ in range(40):
                ask, thing = self.drawn_turn(dice, box, letters)
                expected, before = self.expected_log(box, ask, thing), box.grove().ties()
                if expected in refusals:
                    refusals[expected] += 1
                    self.refused(expected, box, ask, thing)
                    continue
                told = ask(thing)
                self.assertEqual(box.log(), expected)
                behind = forest(pack_of(expected), marks_of(expected), rules)
                self.assertEqual(told, changes(before, behind))
                self.assertEqual(box.grove().ties(), behind)
            self.agrees(box, rules)
            # A deed taken back is as one never done.
            never = opened(rules, tuple(entry for entry in box.log() if entry[1]))
            self.assertEqual(state(never)[1:], state(box)[1:])
        self.assertGreater(min(refusals.values()), 20)

    def test_the_last_deeds_alone(self):
        # (b): of a log the last standing deed of each thing is enough, in whatever order.
        dice = random.Random(34)
        for _ in range(60):
            box, letters = Box(RULES), drawn_pack(dice) or (A,)
            for _ in range(30):
                try:
                    box.do(drawn_deed(dice, letters))
                except Ring:
                    pass
            things = {"come": 0, "go": 0, "read": 1, "unread": 1}
            last = {(things.get(deed[0], 2), deed[1]): deed for deed, stands in box.log()}
            deeds = list(last.values())
            dice.shuffle(deeds)
            self.assertEqual(state(opened(RULES, done(*deeds)))[1:], state(box)[1:])

    def test_back_and_again_leave_all_as_it_was(self):
        dice = random.Random(32)
        for _ in range(60):
            letters = drawn_pack(dice) or (A,)
            box = Box(RULES)
            for _ in range(15):
                try:
                    box.do(drawn_deed(dice, letters))
                except Ring:
                    pass
            kept = state(box)
            for number in range(len(box.log())):
                try:
                    gone = box.back(number)
                except Ring:
                    self.assertEqual(state(box), kept)
                    continue
                came = box.again(number)
                self.assertEqual(came, tuple((name, other, one) for name, one, other in gone))
                self.assertEqual(state(box), kept)


class Opened(Case):
    def test_empty(self):
        self.assertEqual(state(opened(RULES, ())), state(Box(RULES)))

    def test_of_a_log(self):
        log = ((("come", A), True), (("come", B), False), (("join", "a", "c"), True), (("read", "a"), True), (
            ("split", "a"), False))
        box = asked(self, lambda rules, log: state(opened(rules, log)), (), log)
        self.assertEqual(box[:4], (log, (A,), (("a", "c"),), ("a",)))
        box = opened((), log)
        self.agrees(box)
        # The first change is told of the forest it was opened with.
        self.assertEqual(box.again(1), (("b", None, ("a", ("own",))),))

    def test_with_a_ring(self):
        a, b, c = ("join", "a", "b"), ("join", "b", "a"), ("join", "b", "c")
        with self.assertRaises(Ring):
            opened((), done(a, b))
        with self.assertRaises(Ring):
            opened((), done(a, c, ("join", "c", "a"), ("come", A)))
        for log in (((a, True), (b, False)), ((a, False), (b, True)), done(a, b, ("free", "a")), done(a, b, c)):
            self.assertEqual(opened((), log).log(), log)
        with self.assertRaises(Ring):
            opened((), done(a, ("free", "a"), b, a))

    def test_with_a_ring_on_the_way_alone(self):
        # Such a log couldn't be made by do alone, but in the end there is none.
        log = done(("join", "a", "b"), ("join", "b", "a"), ("split", "b"))
        box = opened((), log)
        self.assertEqual(box.marks(), (("a", "b"), ("b", None)))
        self.refused(Ring, box, box.back, 2)
        self.assertEqual(box.back(0), ())

    def test_names_beyond_the_bounds_are_not_refused(self):
        long = "n" * 13
        log = done(("come", letter(long, ("z" * 14,), 100000001, "h" * 61)), ("join", long, "y" * 13))
        box = opened((), log)
        self.assertEqual(box.grove().tie(long), ("y" * 13, ("hand",)))

    def test_goes_on_as_the_one_whose_log_it_was(self):
        dice = random.Random(33)
        for _ in range(40):
            rules, letters = dice.choice(((), RULES)), drawn_pack(dice) or (A,)
            box = Box(rules)
            twin = None
            for at in range(24):
                if at == 12:
                    twin = opened(rules, box.log())
                    self.assertEqual(state(twin), state(box))
                many = len(box.log())
                word = dice.choice(("do", "do", "back", "again")) if many else "do"
                thing = drawn_deed(dice, letters) if word == "do" else dice.randrange(many)
                told = []
                for one in (box, twin):
                    try:
                        told.append(one and getattr(one, word)(thing))
                    except TalkError as error:
                        told.append(error.__class__)
                if twin is not None:
                    self.assertEqual(told[0], told[1])
                    self.assertEqual(state(twin), state(box))


if __name__ == "__main__":
    unittest.main()
