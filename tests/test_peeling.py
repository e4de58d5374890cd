import itertools
import unittest

from answertrees.heads import plain
from answertrees.peeling import bare, is_answer, peeled
from tests.helper import asked

RE = ("ahead", "re")
AW = ("ahead", "aw")
TOWN = ("label", "town")
WAS = ("behind", "was")


class Peeled(unittest.TestCase):
    def told(self, head, *rules):
        return asked(self, peeled, head, rules)

    def one(self, head, rule, left):
        self.assertEqual(self.told(head, rule), ((0, left),), head)
        self.assertEqual(bare(head, (rule,)), left)

    def none(self, head, *rules):
        self.assertEqual(self.told(head, *rules), (), head)
        self.assertEqual(asked(self, bare, head, rules), plain(head))
        self.assertIs(asked(self, is_answer, head, rules), False)

    def test_ahead(self):
        for head in ("re:walls", "re: walls", "  Re:   WALLS  ", "RE: walls", "re[1]:walls", "re[12]: walls",
                     "Re[0]: walls", "re[007]:   walls", "re[12345678901234567890]: walls"):
            self.one(head, RE, "walls")
        self.one("re: a  b", RE, "a b")
        self.one("re[12]:", RE, "")
        self.one("re:", RE, "")
        self.one("re[1]:]: x", RE, "]: x")

    def test_nearly_ahead(self):
        for head in ("re[]: walls", "re[12] walls", "re walls", "re[1a]: walls", "re[a1]: walls", "re[a]: walls",
                     "re [12]: walls", "re[ 12]: walls", "re[12 ]: walls", "re[1 2]: walls", "re[12] : walls",
                     "re : walls", "re[12: walls", "re12]: walls", "re[12]", "re", "r: walls", "ree: walls", "xre: walls",
                     ": walls", "x re: walls", "walls re:", "walls re[1]:", "re[-1]: walls", "re[+1]: walls",
                     "re[1.0]: walls", "re(12): walls", "re[[1]]: walls", "re[1][2]: walls", "[12]: walls", "re]:",
                     "re[1]a]: walls", "re[12", "re[12]x:", "re[", "re[]:", "re[1;]: x", "re[1_0]: x"):
            self.none(head, RE)

    def test_label(self):
        for head in ("[town]walls", "[town] walls", "  [Town]   walls ", "[TOWN]Walls"):
            self.one(head, TOWN, "walls")
        self.one("[town]", TOWN, "")
        self.one("[town]: walls", TOWN, ": walls")

    def test_nearly_label(self):
        for head in ("walls [town]", "walls[town]", "x [town] walls", "town walls", "[town walls", "town] walls",
                     "[ town] walls", "[town ] walls", "(town) walls", "[tow] walls", "[towns] walls", "[] walls",
                     "town: walls", "[to wn] walls", "[town1] walls"):
            self.none(head, TOWN)

    def test_behind(self):
        for head in ("walls(was)", "walls (was)", "  walls    (Was)  ", "WALLS (WAS)"):
            self.one(head, WAS, "walls")
        self.one("(was)", WAS, "")

    def test_nearly_behind(self):
        for head in ("(was) walls", "(was)walls", "walls (was) x", "walls (was", "walls was)", "walls was", "walls [was]",
                     "walls ( was)", "walls (was )", "walls (wa)", "walls (xwas)", "walls ()", "walls (was).", "walls was:"):
            self.none(head, WAS)

    def test_one_kind_does_not_do_for_another(self):
        self.none("walls (re)", RE)
        self.none("[re] walls", RE)
        self.none("was: walls", WAS)
        self.none("[was] walls", WAS)
        self.none("town[1]: walls", TOWN)

    def test_no_rules(self):
        for head in ("", " ", "Re: walls", "[town] walls (was)"):
            self.none(head)

    def test_nothing_to_take(self):
        for head in ("", "   ", "walls", "the old walls"):
            self.none(head, RE, TOWN, WAS)

    def test_as_many_steps_as_marks(self):
        self.assertEqual(self.told("Re: re[2]:RE:  walls", RE), (
            (0, "re[2]:re: walls"), (0, "re: walls"), (0, "walls")))
        for many in range(20):
            steps = self.told("re:" * many, RE)
            self.assertEqual(steps, tuple((0, "re:" * left) for left in reversed(range(many))))
            self.assertEqual(self.told("x" + "(was) " * many, WAS)[-1:], ((0, "x"),)[:many])
            self.assertEqual(len(self.told("[town]" * many + "x", TOWN)), many)

    def test_first_rule_of_several(self):
        head = " Re: [town]  walls (was)"
        self.assertEqual(self.told(head, RE, TOWN, WAS), (
            (0, "[town] walls (was)"), (1, "walls (was)"), (2, "walls")))
        self.assertEqual(self.told(head, TOWN, WAS, RE), (
            (1, "re: [town] walls"), (2, "[town] walls"), (0, "walls")))
        self.assertEqual(self.told(head, WAS, RE, TOWN), (
            (0, "re: [town] walls"), (1, "[town] walls"), (2, "walls")))
        # Each step looks at the rules from the first one on.
        self.assertEqual(self.told("aw: re: aw: x", RE, AW), ((1, "re: aw: x"), (0, "aw: x"), (1, "x")))

    def test_alike_rules(self):
        self.assertEqual(self.told("re: re: x", RE, RE), ((0, "re: x"), (0, "x")))
        self.assertEqual(self.told("re: aw: x", AW, RE, RE), ((1, "aw: x"), (0, "x")))

    def test_words_that_begin_alike(self):
        rules = (("ahead", "r"), ("ahead", "re"), ("ahead", "rere"))
        self.assertEqual(self.told("rere: re: r: x", *rules), ((2, "re: r: x"), (1, "r: x"), (0, "x")))

    def test_nothing_left(self):
        self.assertEqual(self.told("Re: [Town] (was)", RE, TOWN, WAS)[-1], (2, ""))
        self.assertEqual(bare("re:re[3]: (was)(was)", (WAS, RE)), "")

    def test_blanks_alone_are_taken_at_the_ends(self):
        self.one("re: ,walls.", RE, ",walls.")
        self.one("re: :walls", RE, ":walls")


class Answers(unittest.TestCase):
    def test_by_an_ahead_rule(self):
        rules = (TOWN, WAS, RE)
        for head in ("re: walls", "[town] Re[2]: walls", "re:", "re: walls (was)", "[town][town]re:"):
            self.assertIs(asked(self, is_answer, head, rules), True, head)
        for head in ("walls", "", "[town] walls", "walls (was)", "[town] (was)", "walls re:", "aw: walls"):
            self.assertIs(asked(self, is_answer, head, rules), False, head)

    def test_without_such_a_rule(self):
        self.assertIs(is_answer("re: walls", (TOWN, WAS)), False)
        self.assertIs(is_answer("re: walls", ()), False)
        self.assertIs(is_answer("[re] walls (re)", (("label", "re"), ("behind", "re"))), False)
        self.assertIs(is_answer("aw: re: x", (RE,)), False)


class Order(unittest.TestCase):
    def test_order_of_rules_changes_no_bare_head(self):
        rules = (RE, AW, TOWN, WAS, ("behind", "re"))
        parts = ("re:", "aw[3]: ", "[town]", "(was) ", "(re)", "x")
        for many in range(5):
            for chosen in itertools.product(parts, repeat=many):
                head = "".join(chosen)
                left, answer = bare(head, rules), is_answer(head, rules)
                for other in (rules[::-1], rules[2:] + rules[:2], (WAS, RE, TOWN, ("behind", "re"), AW, RE)):
                    self.assertEqual(bare(head, other), left, head)
                    self.assertEqual(is_answer(head, other), answer, head)
                self.assertEqual(peeled(left, rules), ())

    def test_all_orders(self):
        for head in ("Re: [town] aw[1]: walls (was) (re)", "[town](was)", "re:", "aw: x (was)"):
            told = {(bare(head, order), is_answer(head, order), len(peeled(head, order)))
                    for order in itertools.permutations((RE, AW, TOWN, WAS, ("behind", "re")))}
            self.assertEqual(len(told), 1, head)


if __name__ == "__main__":
    unittest.main()
