import unittest

from answertrees.showing import show_deed, show_letter, show_log, show_pack, show_rules
from tests.helper import DEEDS, asked, letter, pack


class Letters(unittest.TestCase):
    def shown(self, thing, text):
        self.assertEqual(asked(self, show_letter, thing), text)

    def test_plain(self):
        self.shown(("b", 17, "Re: walls", ("a", "c")), "b 17 a,c Re: walls")
        self.shown(("abcdefghijkl", 5, "x", ("0",)), "abcdefghijkl 5 0 x")

    def test_empty_row_and_head(self):
        self.shown(("a", 5, "", ()), "a 5 - ")
        self.shown(("a", 5, "Walls", ()), "a 5 - Walls")
        self.shown(("a", 5, "", ("b",)), "a 5 b ")

    def test_blanks_in_heads(self):
        self.shown(("a", 5, " walls", ()), "a 5 -  walls")
        self.shown(("a", 5, "walls  ", ()), "a 5 - walls  ")
        self.shown(("a", 5, "  old   walls ", ("b",)), "a 5 b   old   walls ")
        self.shown(("a", 5, " ", ()), "a 5 -  ")
        self.shown(("a", 5, " " * 60, ()), "a 5 - " + " " * 60)

    def test_heads_like_other_texts(self):
        self.shown(("a", 5, "- b,c 5", ()), "a 5 - - b,c 5")
        self.shown(("a", 5, "~!@\\n", ()), "a 5 - ~!@\\n")

    def test_days(self):
        self.shown(("a", 0, "h", ()), "a 0 - h")
        self.shown(("a", 10, "h", ()), "a 10 - h")
        self.shown(("a", 99999999, "h", ()), "a 99999999 - h")

    def test_rows(self):
        self.shown(("a", 1, "h", tuple("bcdefghij")), "a 1 b,c,d,e,f,g,h,i,j h")
        # As it stands: its own name, one twice.
        self.shown(("a", 1, "h", ("b", "a", "b")), "a 1 b,a,b h")


class Packs(unittest.TestCase):
    def test_packs(self):
        self.assertEqual(asked(self, show_pack, ()), "")
        self.assertEqual(asked(self, show_pack, (("a", 1, "", ()),)), "a 1 - ")
        letters = pack(letter("b", ("a",), 2, "x "), letter("a", (), 10), letter("a", (), 9, "y"))
        self.assertEqual(asked(self, show_pack, letters), "a 9 - y\na 10 - \nb 2 a x ")


class Rules(unittest.TestCase):
    def test_rules(self):
        self.assertEqual(asked(self, show_rules, ()), "")
        self.assertEqual(asked(self, show_rules, (("ahead", "re"),)), "ahead re")
        self.assertEqual(asked(self, show_rules, (("label", "list"), ("behind", "was"), ("ahead", "re"), ("ahead", "re"))),
                         "label list, behind was, ahead re, ahead re")


class Deeds(unittest.TestCase):
    TEXTS = ("come a 7 b,c Walls", "go a 7 b,c Walls", "join a b", "split a", "free a", "read a", "unread a")

    def test_each_deed(self):
        for deed, text in zip(DEEDS, self.TEXTS, strict=True):
            self.assertEqual(asked(self, show_deed, deed), text)

    def test_blanks_in_heads(self):
        self.assertEqual(show_deed(("come", letter("a"))), "come a 0 - ")
        self.assertEqual(show_deed(("go", letter("a", ("b",), 1, " x  y "))), "go a 1 b  x  y ")

    def test_logs(self):
        self.assertEqual(asked(self, show_log, ()), "")
        for deed, text in zip(DEEDS, self.TEXTS, strict=True):
            self.assertEqual(asked(self, show_log, ((deed, True),)), "+ " + text)
            self.assertEqual(asked(self, show_log, ((deed, False),)), "- " + text)
        log = tuple((deed, at % 2 == 0) for at, deed in enumerate(DEEDS))
        signs = "+-+-+-+"
        self.assertEqual(asked(self, show_log, log), "\n".join(f"{sign} {text}" for sign, text in zip(signs, self.TEXTS)))


if __name__ == "__main__":
    unittest.main()
