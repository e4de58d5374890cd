import unittest
from reprlib import repr as short

from answertrees.heads import is_rules, plain
from tests.helper import asked, odd_things

RULE = ("ahead", "re")


class Rules(unittest.TestCase):
    def holds(self, *things):
        for thing in things:
            self.assertIs(asked(self, is_rules, thing), True, short(thing))

    def fails(self, *things):
        for thing in things:
            self.assertIs(is_rules(thing), False, short(thing))

    def test_how_many(self):
        for many in range(10):
            self.assertIs(is_rules((RULE,) * many), many <= 6, many)
        self.holds((), (RULE,), (("label", "b"), ("behind", "a"), ("ahead", "z"), RULE, RULE, ("ahead", "a")))

    def test_any_order_and_alike(self):
        self.holds((("label", "z"), ("ahead", "a")), (("ahead", "a"), ("label", "z")), (RULE, RULE))

    def test_words(self):
        for many in range(12):
            self.assertIs(is_rules((("label", "w" * many),)), 1 <= many <= 8, many)
        for sign in [chr(code) for code in range(0, 400)]:
            good = "a" <= sign <= "z"
            self.assertIs(is_rules((("ahead", sign),)), good, repr(sign))
            self.assertIs(is_rules((("ahead", "a" + sign + "b"),)), good, repr(sign))
        self.fails((("ahead", "re1"),), (("ahead", "Re"),), (("ahead", "r e"),), (("ahead", "re\n"),), (("ahead", "re:"),))
        self.fails((("ahead", "\u00e4"),))

    def test_kinds(self):
        self.holds(*[((kind, "re"),) for kind in ("ahead", "behind", "label")])
        for kind in ("", "Ahead", "ahead ", "a", "head", "front", "labels", "re", "ahead\n", "behin"):
            self.fails(((kind, "re"),))

    def test_form(self):
        self.fails((("ahead",),), (("ahead", "re", "re"),), ((),), (["ahead", "re"],), [RULE], [], RULE)
        self.fails((("re", "ahead"),), (RULE, ["ahead", "re"]), ((RULE,),), (RULE, ()), ("ahead", "re"))
        self.fails({RULE: RULE}, "ahead re", "", "ab", ("ab",))

    def test_any_kind(self):
        self.fails(*odd_things())
        for thing in odd_things() + ["", ()]:
            self.fails((thing,), (RULE, thing), ((thing, "re"),), (("ahead", thing),), ((thing, thing),), (thing, RULE))


class Plain(unittest.TestCase):
    def test_nothing_and_blanks_alone(self):
        for many in range(6):
            self.assertEqual(asked(self, plain, " " * many), "")

    def test_blanks(self):
        self.assertEqual(plain("  walls"), "walls")
        self.assertEqual(plain("walls  "), "walls")
        self.assertEqual(plain(" the   old  walls "), "the old walls")
        self.assertEqual(plain("the old walls"), "the old walls")
        self.assertEqual(plain("a b  c   d    e"), "a b c d e")

    def test_capitals(self):
        self.assertEqual(plain("ABCDEFGHIJKLMNOPQRSTUVWXYZ"), "abcdefghijklmnopqrstuvwxyz")
        self.assertEqual(plain("  RE:  Old WALLS"), "re: old walls")

    def test_signs_that_are_neither(self):
        kept = "!\"#$&'()*+,-./0123456789:;<=>?@[\\]^_`abcxyz{|}~"
        self.assertEqual(plain(kept), kept)
        self.assertEqual(plain(" " + kept + "  " + kept), kept + " " + kept)

    def test_blanks_alone_are_blanks(self):
        self.assertEqual(plain("a\n\nb\n"), "a\n\nb\n")

    def test_plain_of_plain(self):
        for head in ("", "  A  b ", "Re[12]:  Walls (WAS)", "x", " ~ ~ "):
            once = asked(self, plain, head)
            self.assertEqual(plain(once), once)


if __name__ == "__main__":
    unittest.main()
