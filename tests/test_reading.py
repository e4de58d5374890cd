import random
import unittest
from reprlib import repr as short

from answertrees.deeds import is_deed, is_log
from answertrees.errors import NoText, TalkError
from answertrees.heads import is_rules
from answertrees.letters import is_letter, is_pack
from answertrees.reading import read_deed, read_letter, read_log, read_pack, read_rules
from answertrees.showing import show_deed, show_letter, show_log, show_pack, show_rules
from tests.helper import (
    DEEDS, LETTER_FORM, RULES, RULES_FORM, asked, drawn_deed, drawn_pack, letter, near, odd_things, pack, so_written_deed,
    written)

LETTERS = (
    letter("a"), letter("b", ("a",), 5, "Re: walls"), letter("abcdefghijkl", tuple("bcdefghij"), 99999999, " x  y "),
    letter("0", ("0", "9", "0"), 10, "~" * 60), letter("c", (), 0, " "), letter("d", (), 20, "- b,c 5 - x"))


def so_written_entry(text):
    return text[:2] in ("+ ", "- ") and so_written_deed(text[2:])


class Case(unittest.TestCase):
    def refused(self, read, text, row=0):
        for _ in range(2):
            with self.assertRaises(TalkError, msg=short(text)) as caught:
                read(text)
            self.assertIs(caught.exception.__class__, NoText, short(text))
            self.assertEqual(caught.exception.row, row, short(text))
            self.assertIs(caught.exception.row.__class__, int)

    def nothing_else(self, read, *texts):
        for text in texts:
            self.refused(read, text)

    def no_texts(self, read):
        for thing in odd_things() + [b"a 0 - ", ["a 0 - "], ("a 0 - ",), LETTERS[0], list("a 0 - ")]:
            self.refused(read, thing)


class Letters(Case):
    def test_as_it_was(self):
        for one in LETTERS:
            self.assertEqual(asked(self, read_letter, show_letter(one)), one)

    def test_one_sign_otherwise(self):
        for one in LETTERS:
            for text in near(show_letter(one)):
                if written(LETTER_FORM, text):
                    found = read_letter(text)
                    self.assertIs(is_letter(found), True, text)
                    self.assertEqual(show_letter(found), text)
                else:
                    self.refused(read_letter, text)

    def test_heads(self):
        self.assertEqual(read_letter("a 5 - "), ("a", 5, "", ()))
        self.assertEqual(read_letter("a 5 -   x  y  "), ("a", 5, "  x  y  ", ()))
        self.assertEqual(read_letter("a 5 - b 6 - c"), ("a", 5, "b 6 - c", ()))
        self.assertEqual(read_letter("a 5 - " + "h" * 60)[2], "h" * 60)
        self.nothing_else(read_letter, "a 5 - " + "h" * 61, "a 5 - \x7f", "a 5 - \xe9", "a 5 - a\tb")

    def test_parts(self):
        self.nothing_else(read_letter, "", " ", "a", "a 5", "a 5 -", "a  5 - ", " a 5 - ", "a 5  - ", "a 5 - \n", "a 5 - \nx")
        self.nothing_else(read_letter, "5 a - ", "A 5 - ", "abcdefghijklm 5 - ", "- 5 - ", "a - - ", "a 5\t- x")

    def test_rows(self):
        self.assertEqual(read_letter("a 5 b,a,b h")[3], ("b", "a", "b"))
        self.assertEqual(read_letter("a 5 1,2,3,4,5,6,7,8,9 h")[3], tuple("123456789"))
        self.nothing_else(read_letter, "a 5 1,2,3,4,5,6,7,8,9,0 h", "a 5 b, h", "a 5 ,b h", "a 5 b,,c h", "a 5 , h")
        self.nothing_else(read_letter, "a 5 -,b h", "a 5 b,- h", "a 5 -- h", "a 5 B h", "a 5 b;c h", "a 5 b,abcdefghijklm h")

    def test_numbers(self):
        self.assertEqual(read_letter("a 0 - ")[1], 0)
        self.assertEqual(read_letter("a 99999999 - ")[1], 99999999)
        for number in ("00", "05", "000000001", "100000000", "999999999", "1000000000", "+5", "-5", "-0", "5.0", "5e1", "1_0"):
            self.refused(read_letter, f"a {number} - ")
        for number in ("\u0663", "\xb2", "\uff15", "5\u0660", "x", "0x5", "", "5,", "9" * 5000, "1" + "0" * 20000, "0" * 9000):
            self.refused(read_letter, f"a {number} - ")

    def test_no_texts(self):
        self.no_texts(read_letter)


class Rules(Case):
    def test_as_they_were(self):
        for rules in ((), RULES, RULES * 2, (("ahead", "a"),), (("label", "abcdefgh"), ("label", "abcdefgh"))):
            self.assertEqual(asked(self, read_rules, show_rules(rules)), rules)

    def test_one_sign_otherwise(self):
        for rules in (RULES, RULES * 2, RULES[:1], ()):
            for text in near(show_rules(rules)):
                if written(RULES_FORM, text):
                    found = read_rules(text)
                    self.assertIs(is_rules(found), True, text)
                    self.assertEqual(show_rules(found), text)
                else:
                    self.refused(read_rules, text)

    def test_no_rules(self):
        self.nothing_else(read_rules, " ", ",", ", ", "ahead", "ahead ", " ahead re", "ahead re ", "ahead  re", "ahead re,")
        self.nothing_else(read_rules, "ahead re,label x", "ahead re,  label x", "ahead re, ", ", ahead re", "ahead re,, label x")
        self.nothing_else(read_rules, "ahead re\n", "ahead re\nlabel x", "Ahead re", "before re", "ahead Re", "ahead r2", "re ahead")
        self.nothing_else(read_rules, "ahead abcdefghi", "ahead re label", ", ".join(["ahead re"] * 7), "ahead re ,label x")
        self.assertEqual(len(read_rules(", ".join(["ahead re"] * 6))), 6)

    def test_no_texts(self):
        self.no_texts(read_rules)


class Deeds(Case):
    def test_as_it_was(self):
        for deed in DEEDS + tuple(("go", one) for one in LETTERS) + tuple(("come", one) for one in LETTERS):
            self.assertEqual(asked(self, read_deed, show_deed(deed)), deed)

    def test_one_sign_otherwise(self):
        for deed in DEEDS + (("join", "ab", "a"), ("join", "1", "12")):
            for text in near(show_deed(deed)):
                if so_written_deed(text):
                    found = read_deed(text)
                    self.assertIs(is_deed(found), True, text)
                    self.assertEqual(show_deed(found), text)
                else:
                    self.refused(read_deed, text)

    def test_no_deeds(self):
        self.nothing_else(read_deed, "", " ", "come", "come ", "come a", "go a 5 -", "come  a 5 - ", " come a 5 - ", "come a 05 - ")
        self.nothing_else(read_deed, "join", "join a", "join a b c", "join a a", "join a  b", "join a b ", " join a b", "join a,b")
        self.nothing_else(read_deed, "join a -", "split", "split ", "split a b", "split A", "split  a", "split a ", "split -")
        self.nothing_else(read_deed, "Split a", "splits a", "leave a", "a", "read a\n", "read a\nread b", "+ read a", "unread a\t")
        self.nothing_else(read_deed, "come 5 a - ", "come a 5 - \n", "come join a b", "read a 5 - ", f"come a {'9' * 5000} - ")

    def test_no_texts(self):
        self.no_texts(read_deed)


class Packs(Case):
    LETTERS = pack(*LETTERS, letter("b", ("a",), 6), letter("b", (), 5, "Re: walls"))

    def first_wrong(self, text):
        """The number of the first row that is wrong, or None."""
        last = None
        for at, row in enumerate(text.split("\n") if text else []):
            if not written(LETTER_FORM, row):
                return at
            name, day, names, head = row.split(" ", 3)
            one = (name, int(day), head, () if names == "-" else tuple(names.split(",")))
            if last is not None and not one > last:
                return at
            last = one
        return None

    def agrees(self, text):
        wrong = self.first_wrong(text)
        if wrong is not None:
            return self.refused(read_pack, text, wrong)
        found = read_pack(text)
        self.assertIs(is_pack(found), True, text)
        self.assertEqual(show_pack(found), text)

    def test_as_they_were(self):
        self.assertEqual(asked(self, read_pack, ""), ())
        for many in range(len(self.LETTERS) + 1):
            letters = self.LETTERS[:many]
            self.assertEqual(asked(self, read_pack, show_pack(letters)), letters)

    def test_drawn_ones(self):
        dice = random.Random(61)
        for _ in range(200):
            letters = drawn_pack(dice)
            self.assertEqual(read_pack(show_pack(letters)), letters)

    def test_one_sign_otherwise(self):
        for text in near(show_pack(self.LETTERS[2:5])):
            self.agrees(text)
        dice = random.Random(62)
        for text in near(show_pack(self.LETTERS), dice, 1500):
            self.agrees(text)

    def test_rows(self):
        self.refused(read_pack, "\n", 0)
        self.refused(read_pack, " ", 0)
        self.refused(read_pack, "a 1 - \n", 1)
        self.refused(read_pack, "\na 1 - ", 0)
        self.refused(read_pack, "a 1 - \n\nb 1 - ", 1)
        self.refused(read_pack, "a 1 - \nb 1 - \nc", 2)
        self.refused(read_pack, "a 1 - \r\nb 1 - ", 0)
        self.refused(read_pack, "a 1 - \x0bb 1 - ", 0)

    def test_rising(self):
        self.refused(read_pack, "b 1 - \na 1 - ", 1)
        self.refused(read_pack, "a 1 - \na 1 - ", 1)
        self.refused(read_pack, "a 10 - \na 9 - ", 1)
        self.assertEqual(len(read_pack("a 9 - \na 10 - \na 10 - x\na 10 a x\nb 0 - ")), 5)
        self.refused(read_pack, "a 1 - x\na 1 b ", 1)
        self.refused(read_pack, "a 1 - \nb 1 - \nb 1 - \nc", 2)

    def test_whichever_row_comes_first(self):
        self.refused(read_pack, "b 1 - \na 1 - \nc", 1)
        self.refused(read_pack, "b 1 - \nc\na 1 - ", 1)
        self.refused(read_pack, "c\nb 1 - \na 1 - ", 0)
        self.refused(read_pack, "a 1 - \nb 1 - \na 1 - \nx\ny", 2)
        self.refused(read_pack, "a 1 - \nb 1 - \nc 01 - \nb 1 - ", 2)

    def test_no_texts(self):
        self.no_texts(read_pack)


class Logs(Case):
    LOG = tuple((deed, at % 2 == 0) for at, deed in enumerate(DEEDS)) + tuple((deed, at % 2 == 1) for at, deed in enumerate(DEEDS))

    def agrees(self, text):
        rows = text.split("\n") if text else []
        wrong = [at for at, row in enumerate(rows) if not so_written_entry(row)]
        if wrong:
            return self.refused(read_log, text, wrong[0])
        found = read_log(text)
        self.assertIs(is_log(found), True, text)
        self.assertEqual(show_log(found), text)

    def test_as_they_were(self):
        self.assertEqual(asked(self, read_log, ""), ())
        for many in range(len(self.LOG) + 1):
            self.assertEqual(asked(self, read_log, show_log(self.LOG[:many])), self.LOG[:many])

    def test_drawn_ones(self):
        dice = random.Random(63)
        for _ in range(200):
            letters = drawn_pack(dice) or LETTERS
            log = tuple((drawn_deed(dice, letters), dice.random() < 0.5) for _ in range(dice.randrange(12)))
            self.assertEqual(read_log(show_log(log)), log)

    def test_one_sign_otherwise(self):
        for text in near(show_log(self.LOG[1:4])):
            self.agrees(text)
        dice = random.Random(64)
        for text in near(show_log(self.LOG), dice, 1500):
            self.agrees(text)

    def test_rows(self):
        self.refused(read_log, "\n", 0)
        self.refused(read_log, "+", 0)
        self.refused(read_log, "+ ", 0)
        self.refused(read_log, "+ read a\n", 1)
        self.refused(read_log, "\n+ read a", 0)
        self.refused(read_log, "+ read a\n\n+ read a", 1)
        self.refused(read_log, "+ read a\n- read a\nread a", 2)
        self.refused(read_log, "+ read a\n-read a\nread a", 1)
        for text in ("* read a", " read a", "+  read a", "+read a", "+- read a", "- + read a", "--read a", "true read a", " + read a"):
            self.refused(read_log, text)
        # Alike rows, and such whose hands go round, are a log.
        self.assertEqual(len(read_log("+ join a b\n+ join b a\n+ join a b")), 3)

    def test_no_texts(self):
        self.no_texts(read_log)


if __name__ == "__main__":
    unittest.main()
