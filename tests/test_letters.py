import unittest
from reprlib import repr as short

from answertrees.letters import is_letter, is_name, is_pack
from tests.helper import asked, letter, nested, odd_things, pack

NAMES10 = tuple("abcdefghij")


class Case(unittest.TestCase):
    def holds(self, ask, things):
        for thing in things:
            with self.subTest(thing=short(thing)):
                self.assertIs(asked(self, ask, thing), True)

    def fails(self, ask, things):
        for thing in things:
            with self.subTest(thing=short(thing)):
                self.assertIs(ask(thing), False)


class Names(Case):
    def test_names(self):
        self.holds(is_name, ["a", "z", "0", "9", "a1", "1a", "abcdefghijkl", "012345678901"])
        self.holds(is_name, list("abcdefghijklmnopqrstuvwxyz0123456789"))

    def test_lengths(self):
        for many in range(20):
            self.assertIs(is_name("a" * many), 1 <= many <= 12, many)
        self.fails(is_name, ["", "a" * 13, "a" * 100000])

    def test_signs_that_are_none(self):
        good = "abcdefghijklmnopqrstuvwxyz0123456789"
        for sign in [chr(code) for code in range(0, 400)]:
            self.assertIs(is_name(sign), sign in good, repr(sign))
            self.assertIs(is_name("a" + sign + "b"), sign in good, repr(sign))
        self.fails(is_name, ["A", "aB", " ", "a ", " a", "a b", "\n", "a\n", "\na", "~", "a~", "a-b", "a,b", "a%"])
        self.fails(is_name, ["\u00e4", "\u0661", "\u00b2", "\ud800", "a\u0301"])

    def test_no_text(self):
        self.fails(is_name, odd_things() + [(), ("a",), ["a"], {"a": "a"}, ("a", "b")])


class Letters(Case):
    def test_letters(self):
        self.holds(is_letter, [
            ("a", 0, "", ()),
            ("b2", 20261117, "Re: walls", ("a",)),
            ("abcdefghijkl", 99999999, "~" * 60, NAMES10[:9]),
        ])

    def test_days(self):
        for day in (0, 1, 99999998, 99999999):
            self.assertIs(is_letter(("a", day, "", ())), True, day)
        for day in (-1, 100000000, 10 ** 40, -10 ** 40, True, False, None, "0", "", b"0", (0,), [0], ()):
            self.assertIs(is_letter(("a", day, "", ())), False, day)

    def test_heads(self):
        for many in range(70):
            self.assertIs(is_letter(("a", 0, "x" * many, ())), many <= 60, many)
        for sign in [chr(code) for code in range(0, 400)]:
            good = " " <= sign <= "~"
            self.assertIs(is_letter(("a", 0, sign, ())), good, repr(sign))
            self.assertIs(is_letter(("a", 0, "x" + sign + "y", ())), good, repr(sign))
        self.fails(is_letter, [("a", 0, head, ()) for head in ("\n", "a\n", "\na", "a\nb", "\t", "\x7f", "\u00e4")])
        self.holds(is_letter, [("a", 0, head, ()) for head in (" ", "  ", "%", " !~", "A b C")])

    def test_rows(self):
        for many in range(12):
            row = tuple(f"n{at}" for at in range(many))
            self.assertIs(is_letter(("a", 0, "", row)), many <= 9, many)
        self.holds(is_letter, [("a", 0, "", row) for row in (("a",), ("b", "a"), ("b", "b"), ("b",) * 9, ("a", "a"))])
        wrong_rows = (["b"], [], "b", "", None, 0, ("",), ("B",), ("b", 1), ("b", None), (("b",),), {"b": 1}, ("b" * 13,))
        self.fails(is_letter, [("a", 0, "", row) for row in wrong_rows])

    def test_own_name(self):
        self.fails(is_letter, [(name, 0, "", ()) for name in ("", "A", "a" * 13, 1, None, ("a",), True, b"a")])

    def test_form(self):
        whole = ("a", 0, "x", ("b",))
        self.holds(is_letter, [whole])
        self.fails(is_letter, [whole[:many] for many in range(4)])
        self.fails(is_letter, [whole + (thing,) for thing in (None, 0, "", (), "a")])
        for one in range(4):
            for other in range(one):
                parts = list(whole)
                parts[one], parts[other] = parts[other], parts[one]
                if (one, other) != (2, 0):
                    self.fails(is_letter, [tuple(parts)])
        # Name and head are both texts: exchanged they fail only where one isn't the other.
        self.fails(is_letter, [("A b", 0, "x", ()), list(whole), [whole], (whole,)])

    def test_any_kind(self):
        self.fails(is_letter, odd_things() + ["", "a", "abcd", ()])
        for thing in odd_things():
            self.fails(is_letter, [(thing, 0, "", ()), ("a", 0, thing, ()), ("a", 0, "", (thing,))])
            self.fails(is_letter, [("a", 0, "", ("b", thing)), (thing,) * 4])
            if not isinstance(thing, int) or isinstance(thing, bool):
                self.fails(is_letter, [("a", thing, "", ())])
            self.fails(is_letter, [("a", 0, "", thing)])


class Packs(Case):
    def test_packs(self):
        self.holds(is_pack, [
            (),
            (letter("a"),),
            (letter("a"), letter("b", ("a",))),
            (letter("a"), letter("a", day=1), letter("a", day=1, head="x"), letter("a", ("b",), 1, "x")),
            tuple(letter(f"n{at:03}") for at in range(200)),
        ])

    def test_rising(self):
        one, two, three = letter("a", day=5), letter("a", day=10), letter("b")
        self.holds(is_pack, [(one, two, three), (one, three), pack(three, two, one)])
        self.fails(is_pack, [(two, one), (three, one), (one, three, two), (one, two, one)])
        self.fails(is_pack, [(one, one), (one, two, two), (letter("a", ("b",)), letter("a"))])

    def test_figures_rise_ahead_of_letters(self):
        self.holds(is_pack, [(letter("10"), letter("9"), letter("a"))])
        self.fails(is_pack, [(letter("a"), letter("9")), (letter("9"), letter("10"))])

    def test_no_letter_in_it(self):
        good = letter("b")
        self.fails(is_pack, [(good, list(letter("c"))), [good], [], (good, ()), (good, "c"), good, (good[:3],)])
        self.fails(is_pack, [(letter("A"), good), (letter("a", day=True), good), (letter("a", day=-1), good)])
        for thing in odd_things() + [()]:
            self.fails(is_pack, [(thing,), (good, thing), (thing, good), (thing, thing)])

    def test_any_kind(self):
        self.fails(is_pack, odd_things() + ["", "a"])
        self.fails(is_pack, [nested(letter("a"), lambda x: (x,)), nested(letter("a"), lambda x: (x,), 2)])


if __name__ == "__main__":
    unittest.main()
