import copy
import random
import unittest
from reprlib import repr as short

from answertrees.claims import naming
from answertrees.elders import standing
from answertrees.errors import NoPlace
from answertrees.forests import forest
from answertrees.groves import Grove, is_reads
from tests.helper import RULES, asked, drawn_marks, drawn_pack, letter, numbered, odd_things, pack, put

RE = (("ahead", "re"),)


class Reads(unittest.TestCase):
    def test_reads(self):
        for thing in ((), ("a",), ("a", "b"), ("10", "9", "z" * 12), tuple("0abz")):
            self.assertIs(asked(self, is_reads, thing), True)

    def test_no_reads(self):
        wrong = [
            ("b", "a"), ("a", "a"), ("a", "b", "b"), ("9", "10"), ["a", "b"], [], "a", "", ("",), ("A",), ("z" * 13,),
            ("a", None), ("a", 1), ("a", ("b",)), ("a", ["b"]), ("a b",), {"a": True}, ("a", True), ("a", b"b"), (b"a",)]
        for thing in wrong:
            self.assertIs(asked(self, is_reads, thing), False, thing)

    def test_anything(self):
        for thing in odd_things():
            self.assertIs(is_reads(thing), False, short(thing))
            self.assertIs(is_reads(("a", thing)), False, short(thing))
            self.assertIs(is_reads((thing, "a")), False, short(thing))


# Two talks, of a and of the empty root q; p is an empty place beneath a, told by e.
LETTERS = pack(
    letter("a", (), 5, "Walls"), letter("b", ("a",), 9), letter("c", ("a",), 7), letter("d", ("a", "b"), 8),
    letter("e", ("a", "p"), 6), letter("x", ("q",), 4, "Gates"), letter("y", ("x",), 8), letter("z", ("q",), 4))


def grove(letters=LETTERS, marks=(), rules=(), reads=()):
    return Grove(letters, marks, rules, reads)


class Ties(unittest.TestCase):
    def test_ties(self):
        self.assertEqual(grove().ties(), forest(LETTERS, (), ()))
        self.assertEqual(grove((), (("a", "b"),)).ties(), ())
        letters = put(LETTERS, letter("w", (), 1, "re: walls"))
        self.assertEqual(grove(letters, (), RE).ties(), forest(letters, (), RE))
        self.assertNotEqual(grove(letters, (), RE).ties(), forest(letters, (), ()))

    def test_tie(self):
        here = grove(LETTERS, (("y", None), ("z", "c")))
        self.assertEqual(here.tie("a"), (None, ("first",)))
        self.assertEqual(here.tie("b"), ("a", ("own",)))
        self.assertEqual(here.tie("p"), ("a", ("told", "e", 1)))
        self.assertEqual(here.tie("y"), (None, ("hand",)))
        self.assertEqual(here.tie("z"), ("c", ("hand",)))
        round_about = grove(pack(letter("a", ("b",)), letter("b", ("a",))))
        self.assertEqual(round_about.tie("a"), (None, ("ring", ("a", "b"))))

    def test_upward(self):
        here = grove()
        self.assertEqual(here.upward("a"), ("a",))
        self.assertEqual(here.upward("d"), ("d", "b", "a"))
        self.assertEqual(here.upward("e"), ("e", "p", "a"))
        self.assertEqual(here.upward("y"), ("y", "x", "q"))
        # Upward goes by heads too.
        letters = put(LETTERS, letter("w", ("v",), 1, "re: walls"))
        self.assertEqual(grove(letters, (), RE).upward("w"), ("w", "v", "a"))
        self.assertEqual(grove(letters).upward("w"), ("w", "v"))

    def test_meeting(self):
        here = grove()
        for name in "abdpqy":
            self.assertEqual(here.meeting(name, name), name)
        self.assertEqual(here.meeting("d", "e"), "a")
        self.assertEqual(here.meeting("e", "d"), "a")
        self.assertEqual(here.meeting("d", "b"), "b")
        self.assertEqual(here.meeting("b", "d"), "b")
        self.assertEqual(here.meeting("y", "z"), "q")
        self.assertIsNone(here.meeting("d", "y"))
        self.assertIsNone(here.meeting("a", "q"))

    def test_day(self):
        here = grove()
        self.assertEqual([here.day(name) for name in "abcde"], [5, 9, 7, 8, 6])
        self.assertEqual(here.day("p"), 6)
        self.assertEqual(here.day("q"), 4)
        # The least of all beneath, through a letter of a later day.
        letters = pack(letter("a", ("p",), 10), letter("b", ("a",), 9), letter("c", ("p",), 11))
        self.assertEqual(grove(letters).day("p"), 9)
        self.assertEqual(grove(letters).day("a"), 10)
        letters = pack(letter("a", ("p",), 3), letter("b", ("p",), 3))
        self.assertEqual(grove(letters).day("p"), 3)

    def test_day_of_chained_empty_places(self):
        here = grove(pack(letter("a", ("r", "q", "p"), 12), letter("b", ("r", "q"), 13)))
        self.assertEqual([here.day(name) for name in "abpqr"], [12, 13, 12, 12, 12])


class Questions(unittest.TestCase):
    def test_answers(self):
        here = grove()
        self.assertEqual(here.answers("a"), ("p", "c", "b"))
        self.assertEqual(here.answers("q"), ("x", "z"))
        self.assertEqual(here.answers("p"), ("e",))
        self.assertEqual(here.answers("y"), ())
        # Alike days go by names, and days by their size.
        letters = pack(letter("a"), letter("d", ("a",), 9), letter("b", ("a",), 10), letter("c", ("a",), 9))
        self.assertEqual(grove(letters).answers("a"), ("c", "d", "b"))

    def test_answers_by_heads(self):
        letters = put(LETTERS, letter("w", (), 7, "Re: walls"))
        self.assertEqual(grove(letters, (), RE).answers("a"), ("p", "c", "w", "b"))

    def test_talks(self):
        self.assertEqual(grove().talks(), ("q", "a"))
        self.assertEqual(grove(()).talks(), ())
        letters = pack(letter("a", (), 10), letter("b", (), 9), letter("c", (), 9), letter("d", ("p",), 3))
        self.assertEqual(grove(letters).talks(), ("p", "b", "c", "a"))
        # The last day counts, not the first, and not the root's.
        letters = put(letters, letter("e", ("d",), 99))
        self.assertEqual(grove(letters).talks(), ("b", "c", "a", "p"))

    def test_counts(self):
        here = grove(LETTERS, (), (), ("b", "d", "nobody", "p", "x"))
        self.assertEqual(here.counts("a"), (5, 3, 9))
        self.assertEqual(here.counts("b"), (2, 0, 9))
        self.assertEqual(here.counts("p"), (1, 1, 6))
        self.assertEqual(here.counts("q"), (3, 2, 8))
        self.assertEqual(here.counts("y"), (1, 1, 8))
        self.assertEqual(here.counts("d"), (1, 0, 8))
        self.assertEqual(grove().counts("a"), (5, 5, 9))
        everybody = tuple(sorted(one[0] for one in LETTERS))
        self.assertEqual(grove(LETTERS, (), (), everybody).counts("q"), (3, 0, 8))

    def test_empties(self):
        self.assertEqual(grove().empties(), ("p", "q"))
        self.assertEqual(grove(pack(letter("a"))).empties(), ())
        # Known to the marks alone: not shown.
        self.assertEqual(grove(LETTERS, (("k", "m"), ("x", "r"))).empties(), ("p", "q", "r"))
        self.assertEqual(grove(pack(letter("a", ("z", "b", "y")))).empties(), ("b", "y", "z"))

    def test_who(self):
        here = grove()
        self.assertEqual(here.who("a"), (("b", "c", "d", "e"), ()))
        self.assertEqual(here.who("b"), (("d",), ()))
        self.assertEqual(here.who("y"), ((), ()))
        self.assertEqual(here.who("q"), (("x", "z"), ()))

    def test_who_is_held(self):
        # c is held under z, k under z too though never shown; d names b, but isn't its answer.
        marks = (("c", "z"), ("d", None), ("k", "z"), ("m", "k"), ("x", "p"))
        here = grove(LETTERS, marks)
        self.assertEqual(here.who("z"), ((), ("c", "k")))
        self.assertEqual(here.who("b"), (("d",), ()))
        self.assertEqual(here.who("p"), (("e",), ("x",)))
        self.assertEqual(here.answers("b"), ())
        with self.assertRaises(NoPlace):
            here.who("k")


class Lines(unittest.TestCase):
    def test_lines(self):
        here = grove()
        self.assertEqual(here.lines("a"), ((0, "a"), (1, "p"), (2, "e"), (1, "c"), (1, "b"), (2, "d")))
        self.assertEqual(here.lines("b"), ((0, "b"), (1, "d")))
        self.assertEqual(here.lines("q"), ((0, "q"), (1, "x"), (2, "y"), (1, "z")))
        self.assertEqual(here.lines("d"), ((0, "d"),))

    def test_whole(self):
        here = grove()
        self.assertEqual(here.whole(), here.lines("q") + here.lines("a"))
        self.assertEqual(grove(()).whole(), ())

    def test_span(self):
        here = grove()
        self.assertEqual(here.span("q"), (0, 4))
        self.assertEqual(here.span("a"), (4, 10))
        self.assertEqual(here.span("x"), (1, 3))
        self.assertEqual(here.span("y"), (2, 3))
        self.assertEqual(here.span("z"), (3, 4))
        self.assertEqual(here.span("p"), (5, 7))
        self.assertEqual(here.span("d"), (9, 10))

    def test_deep_trees(self):
        names, letters = numbered(900)
        here = grove(letters, (), (), (names[-1],))
        self.assertEqual(here.whole(), tuple(enumerate(names)))
        self.assertEqual(here.lines(names[400]), tuple(enumerate(names[400:])))
        self.assertEqual(here.span(names[400]), (400, 900))
        self.assertEqual(here.counts(names[0]), (900, 899, 0))
        self.assertEqual(here.upward(names[-1]), tuple(reversed(names)))
        self.assertEqual(here.meeting(names[-1], names[450]), names[450])
        self.assertEqual(here.pages(names[0], 7), 129)

    def test_deep_empty_root(self):
        names, letters = numbered(900)
        letters = tuple((name, 900 - at, head, row) for at, (name, day, head, row) in enumerate(letters) if at)
        here = grove(letters)
        self.assertEqual(here.day(names[0]), 1)
        self.assertEqual(here.counts(names[0]), (899, 899, 899))

    def test_broad_trees(self):
        names = [f"n{at:03}" for at in range(500)]
        letters = pack(letter("a"), *[letter(name, ("a",), 500 - at) for at, name in enumerate(names)])
        here = grove(letters)
        self.assertEqual(here.answers("a"), tuple(reversed(names)))
        self.assertEqual(here.lines("a"), ((0, "a"),) + tuple((1, name) for name in reversed(names)))
        self.assertEqual(here.span("n499"), (1, 2))

    def test_pages(self):
        here = grove()
        for size, many in ((1, 6), (2, 3), (3, 2), (4, 2), (5, 2), (6, 1), (7, 1), (10 ** 9, 1)):
            self.assertEqual(here.pages("a", size), many)
            found = ()
            for at in range(many):
                page = here.page("a", size, at)
                self.assertEqual(len(page), min(size, 6 - at * size))
                found += page
            self.assertEqual(found, here.lines("a"))
            for beyond in (many, many + 1, 10 ** 9):
                self.assertEqual(here.page("a", size, beyond), ())
        self.assertEqual(here.pages("d", 1), 1)
        self.assertEqual(here.page("d", 1, 0), ((0, "d"),))
        self.assertEqual(here.page("a", 4, 1), ((1, "b"), (2, "d")))


class Unread(unittest.TestCase):
    def test_later_in_whole(self):
        # In whole: q ? x y z, a p ? e c b d.
        here = grove(LETTERS, (), (), ("y", "e"))
        self.assertEqual(here.unread("q"), "x")
        self.assertEqual(here.unread("x"), "z")
        self.assertEqual(here.unread("z"), "a")
        self.assertEqual(here.unread("a"), "c")
        self.assertEqual(here.unread("p"), "c")

    def test_from_the_beginning_again(self):
        here = grove(LETTERS, (), (), ("d", "x"))
        self.assertEqual(here.unread("b"), "y")
        self.assertEqual(here.unread("d"), "y")

    def test_itself_alone(self):
        everybody = sorted(one[0] for one in LETTERS)
        for name in everybody:
            here = grove(LETTERS, (), (), tuple(one for one in everybody if one != name))
            for other in "apqxyz":
                self.assertEqual(here.unread(other), name)
            self.assertEqual(here.unread(name), name)

    def test_all_read(self):
        everybody = tuple(sorted(one[0] for one in LETTERS))
        here = grove(LETTERS, (), (), everybody)
        for name in everybody + ("p", "q"):
            self.assertIsNone(here.unread(name))

    def test_empty_places_between(self):
        here = grove(pack(letter("a", (), 1), letter("b", ("a", "p", "q"), 2)), (), (), ("p",))
        self.assertEqual(here.whole(), ((0, "a"), (1, "p"), (2, "q"), (3, "b")))
        self.assertEqual(here.unread("a"), "b")
        self.assertEqual(here.unread("b"), "a")


QUESTIONS = (
    lambda here, name: here.tie(name), lambda here, name: here.upward(name), lambda here, name: here.day(name),
    lambda here, name: here.meeting(name, "a"), lambda here, name: here.meeting("a", name),
    lambda here, name: here.meeting(name, name), lambda here, name: here.answers(name),
    lambda here, name: here.counts(name), lambda here, name: here.who(name), lambda here, name: here.lines(name),
    lambda here, name: here.span(name), lambda here, name: here.pages(name, 2), lambda here, name: here.page(name, 2, 0),
    lambda here, name: here.unread(name))


class NotShown(unittest.TestCase):
    def test_each_question(self):
        here = grove(LETTERS, (("k", "m"), ("s", None)), (), ("nobody",))
        for at, question in enumerate(QUESTIONS):
            question(here, "b")
            for name in ["nobody", "k", "m", "s", "", "A", "a ", "ab", "\n", "z" * 40, ("a",), ["a"], {"a": 1}, *odd_things()]:
                with self.assertRaises(NoPlace, msg=(at, short(name))):
                    question(here, name)

    def test_of_no_letters(self):
        for question in QUESTIONS:
            with self.assertRaises(NoPlace):
                question(grove((), (("a", "b"),)), "a")


class Whole(unittest.TestCase):
    """All as a plain walk of the forest tells it."""

    def plain(self, letters, marks, rules, reads):
        above = {name: elder for name, elder, reason in forest(letters, marks, rules)}
        bearing = {one[0]: one[1] for one in standing(letters)}

        def beneath(name):
            return [name] + [deep for one in above if above[one] == name for deep in beneath(one)]

        def days(name):
            return [bearing[one] for one in beneath(name) if one in bearing]

        def day(name):
            return bearing.get(name, min(days(name)))

        def answers(name):
            return sorted((one for one in above if above[one] == name), key=lambda one: (day(one), one))

        def lines(name, depth):
            return [(depth, name)] + [line for one in answers(name) for line in lines(one, depth + 1)]

        talks = sorted((one for one in above if above[one] is None), key=lambda one: (max(days(one)), one))
        whole = [line for root in talks for line in lines(root, 0)]
        order = [name for depth, name in whole]
        new = [name for name in order if name in bearing and name not in reads]
        rows = {}
        for name in above:
            spot = order.index(name)
            later = [one for one in order[spot + 1:] if one in new] + new + [None]
            rows[name] = (
                day(name), tuple(answers(name)),
                (len(days(name)), len([one for one in beneath(name) if one in new]), max(days(name))),
                tuple(lines(name, 0)), (spot, spot + len(beneath(name))), later[0],
                (naming(letters, name), tuple(one for one, elder in marks if elder == name)))
        return tuple(talks), tuple(whole), tuple(sorted(set(above) - set(bearing))), rows

    def check(self, letters, marks, rules, reads, dice):
        here = grove(letters, marks, rules, reads)
        talks, whole, empties, rows = self.plain(letters, marks, rules, reads)
        questions = [(name, at) for name in rows for at in range(7)] + [(None, at) for at in range(4)]
        for _ in range(2):
            dice.shuffle(questions)
            for name, at in questions:
                if name is None:
                    expected = (talks, whole, empties, forest(letters, marks, rules))[at]
                    found = (here.talks, here.whole, here.empties, here.ties)[at]()
                else:
                    expected = rows[name][at]
                    found = (here.day, here.answers, here.counts, here.lines, here.span, here.unread, here.who)[at](name)
                self.assertEqual(found, expected, (name, at))
        for name in rows:
            first, end = here.span(name)
            self.assertEqual([one for depth, one in here.lines(name)], [one for depth, one in here.whole()[first:end]])
            self.check_upward(here, name)
        self.assertEqual(sum(here.counts(root)[0] for root in here.talks()), len(standing(letters)))

    def check_upward(self, here, name):
        up = [name]
        while here.tie(up[-1])[0] is not None:
            up.append(here.tie(up[-1])[0])
        self.assertEqual(here.upward(name), tuple(up))
        for depth, other in here.whole():
            # Whoever has both at it or beneath; the deepest of them is the one where they meet.
            both = [one for one in up if other in [below for step, below in here.lines(one)]]
            self.assertEqual(here.meeting(name, other), (both + [None])[0])

    def test_drawn_ones(self):
        dice = random.Random(20)
        for _ in range(150):
            letters, marks = drawn_pack(dice), drawn_marks(dice)
            reads = tuple(sorted(dice.sample("abcdefgpqrstu", dice.randrange(9))))
            self.check(letters, marks, dice.choice(((), RE, RULES)), reads, dice)

    def test_nothing_is_changed(self):
        things = (LETTERS, (("c", "z"), ("k", "z")), RE, ("a", "b"))
        kept = copy.deepcopy(things)
        here = grove(*things)
        for question in QUESTIONS:
            question(here, "a")
        self.assertEqual(things, kept)

    def test_two_groves_beside_one_another(self):
        one, other = grove(), grove(LETTERS, (("b", None),), RE, ("a",))
        before = [question(one, "a") for question in QUESTIONS], [question(other, "a") for question in QUESTIONS]
        third = grove(pack(letter("a", ("z",), 1)), (("a", "b"),), (), ("a",))
        for question in QUESTIONS:
            question(third, "a")
        self.assertEqual(([question(one, "a") for question in QUESTIONS],
                          [question(other, "a") for question in QUESTIONS]), before)
        self.assertNotEqual(before[0], before[1])

    def test_kinds(self):
        def plain(thing):
            if type(thing) is tuple:
                return all(plain(part) for part in thing)
            return thing is None or type(thing) in (int, str, bool)

        here = grove(LETTERS, (("c", "z"),), RE, ("a",))
        for question in QUESTIONS:
            self.assertTrue(plain(question(here, "a")))
        for told in (here.ties(), here.talks(), here.empties(), here.whole()):
            self.assertTrue(type(told) is tuple and plain(told))


if __name__ == "__main__":
    unittest.main()
