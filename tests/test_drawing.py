import random
import re
import unittest
from reprlib import repr as short

from answertrees.drawing import drawn, read_drawn
from answertrees.errors import NoText, TalkError
from answertrees.groves import Grove
from answertrees.wishes import wish_of
from tests.helper import RULES, asked, drawn_marks, drawn_pack, letter, numbered, odd_things, pack


def drawing(letters, marks=(), rules=(), reads=()):
    return drawn(Grove(letters, marks, rules, reads))


class Drawn(unittest.TestCase):
    def test_no_talks(self):
        self.assertEqual(drawing(()), "")
        self.assertEqual(drawing((), (("a", "b"),), RULES, ("a",)), "")

    def test_read_and_unread(self):
        letters = pack(letter("a"), letter("b", ("a",)))
        self.assertEqual(drawing(letters), "a *\n  b *")
        self.assertEqual(drawing(letters, reads=("a",)), "a\n  b *")
        self.assertEqual(drawing(letters, reads=("b",)), "a *\n  b")
        self.assertEqual(drawing(letters, reads=("a", "b", "c")), "a\n  b")

    def test_empty_places(self):
        letters = pack(letter("c", ("p", "q"), 5))
        self.assertEqual(drawing(letters), "p ?\n  q ?\n    c *")
        # An empty place is one, whether its name was read or not.
        self.assertEqual(drawing(letters, reads=("c", "p")), "p ?\n  q ?\n    c")

    def test_broad(self):
        letters = pack(letter("a"), letter("b", ("a",), 3), letter("c", ("a",), 2), letter("d", ("a",), 2), letter("e", ("c",), 1))
        self.assertEqual(drawing(letters, reads=tuple("abcde")), "a\n  c\n    e\n  d\n  b")

    def test_talks_in_order(self):
        letters = pack(letter("a", (), 9), letter("b", (), 2), letter("c", ("b",), 5), letter("d", (), 5))
        self.assertEqual(drawing(letters, reads=("b",)), "b\n  c *\nd *\na *")

    def test_deep(self):
        names, letters = numbered(1200)
        text = drawing(letters, reads=tuple(names))
        self.assertEqual(text, "\n".join("  " * at + name for at, name in enumerate(names)))
        self.assertEqual(read_drawn(text), tuple(zip(names, [None] + names[:-1])))

    def test_as_a_plain_walk(self):
        dice = random.Random(71)
        for _ in range(200):
            letters, marks = drawn_pack(dice), drawn_marks(dice)
            reads = tuple(sorted(dice.sample("abcdefgpq", 4)))
            grove = Grove(letters, marks, RULES, reads)
            text = drawn(grove)
            self.assertEqual(drawn(grove), text)
            bearers = {one[0] for one in letters}
            rows = [
                "  " * depth + name + ("" if name in bearers and name in reads else " *" if name in bearers else " ?")
                for depth, name in grove.whole()]
            self.assertEqual(text, "\n".join(rows))
            self.assertEqual(asked(self, read_drawn, text), wish_of(grove.ties()))


class ReadDrawn(unittest.TestCase):
    def refused(self, text, row=0):
        for _ in range(2):
            with self.assertRaises(TalkError, msg=short(text)) as caught:
                read_drawn(text)
            self.assertIs(caught.exception.__class__, NoText, short(text))
            self.assertEqual(caught.exception.row, row, short(text))

    def test_the_empty_text(self):
        self.assertEqual(asked(self, read_drawn, ""), ())

    def test_trees(self):
        self.assertEqual(asked(self, read_drawn, "b"), (("b", None),))
        self.assertEqual(asked(self, read_drawn, "b ?\n  a *\n    0\n  c\nd\n  e"), (
            ("0", "a"), ("a", "b"), ("b", None), ("c", "b"), ("d", None), ("e", "d")))
        # Up by several at once.
        self.assertEqual(read_drawn("a\n  b\n    c\n      d\n  e\nf"), (
            ("a", None), ("b", "a"), ("c", "b"), ("d", "c"), ("e", "a"), ("f", None)))
        self.assertEqual(read_drawn("a\n  b\n    c\n    d\n      e"), (
            ("a", None), ("b", "a"), ("c", "b"), ("d", "b"), ("e", "d")))

    def test_which_mark_is_not_asked(self):
        for sign in ("", " ?", " *"):
            self.assertEqual(read_drawn(f"a{sign}\n  b{sign}"), (("a", None), ("b", "a")))

    def test_odd_blanks(self):
        self.refused(" a")
        self.refused("a\n b", 1)
        self.refused("a\n   b", 1)
        self.refused("a\n  b\n   c", 2)

    def test_too_deep(self):
        self.refused("  a")
        self.refused("    a")
        self.refused("a\n    b", 1)
        self.refused("a\n  b\n      c", 2)
        self.refused("a\n  b\nc\n    d", 3)
        self.refused("a\n" + "  " * 5000 + "b", 1)

    def test_a_name_twice(self):
        self.refused("a\na", 1)
        self.refused("a\n  a", 1)
        self.refused("a\n  b\nc\n  b", 3)
        self.refused("a ?\n  b\n    c\na *", 3)

    def test_marks(self):
        for text in ("a !", "a +", "a ? ", "a * ", "a ?*", "a ??", "a ? *", "a * ?", "a ", "a?", "a*", "a  ?", "a  *", "? a", "*"):
            self.refused(text)
            self.refused("b\n  " + text, 1)

    def test_names(self):
        for text in (" ", "  ", "A", "-", "a-b", "a b", "abcdefghijklm", "\xe9", "?", " ?", "a\t", "\ta", "a\r", "a,b", "/"):
            self.refused(text)
            self.refused("b\n" + text, 1)
        self.assertEqual(read_drawn("abcdefghijkl"), (("abcdefghijkl", None),))

    def test_line_feeds(self):
        self.refused("\n")
        self.refused("a\n", 1)
        self.refused("\na", 0)
        self.refused("a\n\nb", 1)
        self.refused("a\n  b\n", 2)
        self.refused("a\r\nb", 0)

    def test_the_first_bad_row(self):
        self.refused("a\n  b\n b\n  c !\nA", 2)
        self.refused("a\na\n  A", 1)
        self.refused("a\n    b\na", 1)
        self.refused("a\nb\n  A\na", 2)
        self.refused("A\na\na", 0)

    def test_no_texts(self):
        for thing in odd_things() + [b"a", ["a"], ("a",), (("a", None),), list("a\nb")]:
            self.refused(thing)

    def plainly(self, text):
        """The names and elders drawn, or the number of the first bad row."""
        found, depths = [], []
        for at, row in enumerate(text.split("\n") if text else []):
            form = re.fullmatch("((?:  )*)([a-z0-9]{1,12})(?: [?*])?", row)
            if form is None:
                return at
            depth, name = len(form[1]) // 2, form[2]
            if depth > (depths[-1] + 1 if depths else 0) or name in [one for one, elder in found]:
                return at
            nearest = [before for before in range(at) if depths[before] == depth - 1]
            found.append((name, found[nearest[-1]][0] if nearest and depth else None))
            depths.append(depth)
        return tuple(sorted(found))

    def test_one_sign_otherwise(self):
        dice = random.Random(72)
        seen = {int: 0, tuple: 0}
        for at in range(40):
            text = drawing(drawn_pack(dice), drawn_marks(dice), RULES, ("a", "b"))
            for spot in range(len(text) + 1):
                sign = dice.choice(["", " ", "  ", "\n", "a", "z", "?", "*", " ?", "A", "\t", "\n  "])
                changed = text[:spot] + sign + text[spot + dice.randrange(2):]
                expected = self.plainly(changed)
                seen[expected.__class__] += 1
                if isinstance(expected, int):
                    self.refused(changed, expected)
                else:
                    self.assertEqual(read_drawn(changed), expected)
        self.assertGreater(min(seen.values()), 100)


if __name__ == "__main__":
    unittest.main()
