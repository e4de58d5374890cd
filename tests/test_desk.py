import random
import re
import unittest
from reprlib import repr as short

from answertrees.boxes import Box
from answertrees.desk import Desk
from answertrees.drawing import drawn, read_drawn
from answertrees.errors import NoDeed, NoPlace, NoRow, NoText, NoWish, Ring, TalkError
from answertrees.fewest import fewest
from answertrees.reading import read_deed, read_rules
from answertrees.showing import show_deed, show_log, show_rules
from answertrees.wishes import is_wish
from tests.helper import (
    NAME_FORM, RULE_FORM, RULES, drawn_deed, drawn_pack, near, odd_things, so_written_deed, written)

NUMBER = "(0|[1-9][0-9]{0,8})"
FORMS = (
    f"rules( {RULE_FORM}(, {RULE_FORM}){{0,5}})?", f"(back|again|log) {NUMBER}", "talks|empties|draw",
    f"(lines|counts|why|way|answers|next|who) {NAME_FORM}", f"page {NAME_FORM} [1-9][0-9]{{0,8}} {NUMBER}", f"meet {NAME_FORM} {NAME_FORM}",
    "wish( [^\n]+)?")

START = (
    "come a 3 - Walls", "come b 5 a Re: walls", "come c 6 p,b ", "come d 4 q,r x  y ", "join r z", "read b", "split q")
ROWS = (
    "rules", "rules ahead re", "rules ahead re, label list, behind was", "come e 7 a,b Re: x", "come e 0 - ", "go a 3 - Walls",
    "join a b", "split a", "free r", "read a", "unread b", "back 0", "again 1", "talks", "empties", "lines a", "page a 1 0",
    "page p 12 30", "counts a", "why a", "way c", "answers a", "meet a c", "next a", "who a", "draw", "wish",
    "wish a/  b *", "log 0", "log 999999999")
NO_ROWS = (
    "", " ", "-", "rule", "rules ", "rules  ahead re", "rules ahead re ", " rules", "rules ahead", "rules ahead re,label x",
    "rules ahead re,", "rules ahead r2", "rules -", "Rules", "rules\n", "rules ahead re\n", "rulesahead re",
    "rules " + ", ".join(["ahead re"] * 7), "come", "come a", "come a 1 -", "come a 01 - ", "come a 1 - \n", "come a 100000000 - ",
    "come a 1 - h\nh", "come  a 1 - ", " come a 1 - ", "come A 1 - ", "come a 1 b, x", "come a 1 - \xe9", "go a", "go 1 a - ",
    "join a", "join a a", "join a b c", "join a  b", "join a b ", "join a -", "split", "split ", "split a b", "split a ",
    "split  a", "split A", "free", "free a\n", "read", "read a b", "reads a", "unread", "un read a", "do come a 1 - ", "do",
    "back", "back ", "back a", "back -1", "back +1", "back 01", "back 00", "back 1 2", "back  1", "back 1 ", " back 1", "back 1\n",
    "back 1234567890", "back " + "9" * 5000, "back " + "0" * 5000, "back \u0661", "back 1.0", "back \xb2", "again", "again x",
    "again 0000000001", "again 1000000000", "again " + "1" * 30000, "again 1,2", "talks a", "talks ", " talks", "Talks", "talk",
    "talks\n", "empties a", "empties ", "empty", "lines", "lines ", "lines A", "lines a b", "lines  a", "lines a ", "lines a\n",
    "lines abcdefghijklm", "line a", "page", "page a", "page a 1", "page a 1 0 0", "page a 0 0", "page a 00 0", "page a 1 01",
    "page a -1 0", "page a 1 -1", "page a 1 1234567890", "page a 1234567890 1", "page A 1 0", "page 1 0 a", "page a  1 0",
    "page a 1 0 ", "page a x 0", "page a 1 " + "9" * 6000, "counts", "counts a b", "counts ", "count a", "why", "why -", "why a b",
    "why a?", "way", "way a b", "way a ", "answers", "answers a b", "answer a", "meet", "meet a", "meet a b c", "meet a  b",
    "meet A b", "meet a b ", "meet a -", "next", "next a b", "next -", "who", "who a b", "who is a", "draw a", "draw ", "Draw",
    "drawn", "wish ", "wishes", "Wish", "wish\n", "wish a\n", "wish a\n  b", " wish", "wisha", "log", "log a", "log 01", "log -1",
    "log 1234567890", "log 1 1", "log " + "5" * 10000, "log ", "logs 1", "\n", "talks\ntalks", "done", "box", "say talks", "+ read a")


def started(*rows):
    desk = Desk()
    for row in rows or START:
        desk.say(row)
    return desk


def is_row(text):
    return so_written_deed(text) or any(written(form, text) for form in FORMS)


def state(desk):
    """All that a desk tells of itself."""
    told = [desk.say("draw"), desk.say("talks"), desk.say("empties")]
    for name in sorted(set(re.findall("[a-z0-9]+", told[0]))):
        told += [desk.say(f"{word} {name}") for word in ("why", "who", "counts")]
    number = 0
    while True:
        try:
            told.append(desk.say(f"log {number}"))
        except NoDeed:
            return told
        number += 1


class Case(unittest.TestCase):
    def refused(self, error, desk, row, place=None):
        """The refusal is of this very class, and nothing changes."""
        before = state(desk)
        for _ in range(2):
            with self.assertRaises(TalkError, msg=short(row)) as caught:
                desk.say(row)
            self.assertIs(caught.exception.__class__, error, short(row))
            if error is NoText:
                self.assertEqual(caught.exception.row, place)
        self.assertEqual(state(desk), before)

    def says(self, desk, *pairs):
        for row, answer in pairs:
            self.assertEqual(desk.say(row), answer, row)

    def asks(self, desk, *pairs):
        """Questions: asked again, the same is told, and nothing changes."""
        before = state(desk)
        self.says(desk, *pairs)
        self.says(desk, *pairs)
        self.assertEqual(state(desk), before)


class NoRows(Case):
    def test_no_rows(self):
        for desk in (Desk(), started()):
            for row in NO_ROWS:
                self.refused(NoRow, desk, row)

    def test_anything(self):
        desk = started()
        for thing in odd_things() + [b"talks", ["talks"], ("talks",), list("talks"), ("read", "a"), {"talks": 1}]:
            self.refused(NoRow, desk, thing)

    def test_rows(self):
        for row in ROWS:
            self.assertTrue(is_row(row), row)
            try:
                self.assertIs(started().say(row).__class__, str, row)
            except (NoDeed, NoWish, NoPlace) as error:
                self.assertNotIsInstance(error, NoRow, row)
        for row in NO_ROWS:
            self.assertFalse(is_row(row), short(row))

    def test_near_to_rows(self):
        # One sign put in, left out or exchanged: a row just where it is so written.
        dice = random.Random(81)
        for row in ROWS:
            for text in near(row, dice, 120):
                desk = started(*START[:3])
                try:
                    desk.say(text)
                    refusal = None
                except TalkError as error:
                    refusal = error.__class__
                self.assertEqual(refusal is NoRow, not is_row(text), text)

    def test_words_more_and_fewer(self):
        for row in ROWS:
            words = row.split(" ")
            for at in range(len(words)):
                for text in (words[:at] + words[at + 1:], words[:at] + ["a"] + words[at:], words[:at] + ["7"] + words[at:]):
                    text = " ".join(text)
                    if not is_row(text):
                        self.refused(NoRow, started(*START[:2]), text)

    def test_ahead_of_all(self):
        # No deed, no place, no wish: but first of all no row.
        desk = started()
        for row in ("back 1234567890", "log 1234567890", "lines zz ", "page zz 0 0", "meet zz", "wish ", "join a r a"):
            self.refused(NoRow, desk, row)


class Rules(Case):
    def test_a_new_box(self):
        desk = started()
        self.assertEqual(desk.say("rules"), "done")
        self.assertEqual(state(desk), state(Desk()))
        rules = ("ahead re", "label list", "behind was", "ahead aw", "label x", "behind fwd")
        for many in range(1, 7):
            desk.say("read a")
            self.assertEqual(desk.say("rules " + ", ".join(rules[:many])), "done")
            self.refused(NoDeed, desk, "log 0")

    def test_which_hold(self):
        rows = ("come a 1 - Walls", "come b 2 - Re: [list] walls (was)", "why b")
        for rules, answer in (("rules", "- first"), ("rules ahead re", "- first"),
                              ("rules behind was, label list, ahead re", "a heads walls")):
            desk = started()
            self.says(desk, (rules, "done"))
            for row in rows[:2]:
                desk.say(row)
            self.assertEqual(desk.say(rows[2]), answer)
        # Without rules the heads that are alike are no answers.
        desk = started("come a 1 - walls", "come b 2 - Walls")
        self.assertEqual(desk.say("why b"), "- first")

    def test_refused_the_box_stays(self):
        desk = started("rules ahead re", "come a 1 - Walls")
        for row in ("rules ahead", "rules ", "rules " + ", ".join(["ahead re"] * 7)):
            self.refused(NoRow, desk, row)
        self.assertEqual(desk.say("come b 2 - re: walls"), "b ! a")


class Deeds(Case):
    def test_changes(self):
        desk = Desk()
        self.says(
            desk, ("come a 3 - Walls", "a ! -"), ("come b 5 a Re: walls", "b ! a"), ("come c 6 p,b ", "c ! b"),
            ("join b z", "b a z; z ! -"), ("join b z", "-"), ("split b", "b z -; z - !"), ("free b", "b - a"), ("read a", "-"),
            ("unread a", "-"), ("come a 3 - Walls", "-"), ("go a 3 - Walls", "-"), ("go zz 0 - ", "-"), ("join x y", "-"),
            ("split b", "a - !; b a -"), ("come d 9 p ", "d ! p; p ! -"))

    def test_a_reason_alone(self):
        desk = started("come a 3 - ", "come b 5 a ")
        self.says(desk, ("join b a", "b a a"), ("split a", "a - -"), ("why a", "- hand"), ("why b", "a hand"))

    def test_back_and_again(self):
        desk = started("come a 3 - ", "come b 5 a ", "join b c", "free b")
        self.says(desk, ("back 3", "b a c; c ! -"), ("back 0", "a - !"), ("again 3", "a ! -; b c a; c - !"), ("again 0", "-"))
        self.says(desk, ("counts a", "2 2 5"), ("back 1", "b a !"), ("again 1", "b ! a"))

    def test_no_deeds(self):
        desk = started()
        for row in ("back 7", "again 7", "back 999999999", "again 999999999", "again 0", "log 7", "log 999999999"):
            self.refused(NoDeed, desk, row)
        desk.say("back 6")
        self.refused(NoDeed, desk, "back 6")
        empty = Desk()
        for row in ("back 0", "again 0", "log 0"):
            self.refused(NoDeed, empty, row)

    def test_rings(self):
        desk = started("join a b", "free a", "join b a", "come a 1 - ")
        self.refused(Ring, desk, "join a b")
        self.refused(Ring, desk, "back 1")
        self.refused(NoDeed, desk, "again 1")
        desk.say("back 2")
        desk.say("back 1")
        self.refused(Ring, desk, "again 2")
        self.refused(NoRow, desk, "join a a")

    def test_heads_as_they_stand(self):
        desk = started("come a 3 -   Old   walls  ")
        self.says(desk, ("log 0", "+ come a 3 -   Old   walls  "), ("go a 3 - Old walls", "-"), ("go a 3 -   Old   walls  ", "a - !"))


class Questions(Case):
    def test_nothing_to_tell(self):
        self.asks(Desk(), ("talks", "-"), ("empties", "-"), ("draw", "-"), ("wish", "-"))
        self.asks(started("read a", "split b"), ("talks", "-"), ("empties", "-"), ("draw", "-"), ("wish", "-"))
        self.asks(started("come a 1 - ", "come b 2 - ", "read a", "read b"), (
            "answers a", "-"), ("meet a b", "-"), ("next a", "-"), ("who a", "-"), ("page a 5 1", "-"), (
            "page a 999999999 999999999", "-"), ("wish a/b", "-"), ("empties", "-"))

    def test_each(self):
        desk = started()
        self.asks(
            desk, ("talks", "z a"), ("empties", "r z"), ("lines a", "0.a 1.b 2.c"), ("lines c", "0.c"), ("page a 2 0", "0.a 1.b"),
            ("page a 2 1", "2.c"), ("page a 2 2", "-"), ("page b 1 1", "1.c"), ("counts a", "3 2 6"), ("counts r", "1 1 4"),
            ("way c", "c b a"), ("way a", "a"), ("answers a", "b"), ("answers c", "-"), ("meet c b", "b"), ("meet a c", "a"),
            ("meet c d", "-"), ("next a", "c"), ("next c", "d"), ("who b", "c"), ("who a", "b"), ("who z", "/ r"), ("who c", "-"),
            ("draw", "z ?/  r ?/    d */a */  b/    c *"), ("log 0", "+ come a 3 - Walls"), ("log 3", "+ come d 4 q,r x  y "),
            ("log 6", "+ split q"))
        desk.say("back 6")
        self.asks(desk, ("log 6", "- split q"))

    def test_who(self):
        desk = started("come a 1 p ", "come b 2 p,a ", "join c p", "join d p", "come d 1 - ")
        self.asks(desk, ("who p", "a b / c d"), ("who a", "b"), ("who b", "-"), ("who d", "-"))

    def test_each_kind_of_reason(self):
        desk = started(
            "rules ahead re", "come a 1 - Old  walls", "come b 2 - RE:  old walls", "come c 3 p,q,a ", "come d 1 e ", "come e 1 d ",
            "come f 9 p,q x", "split h", "come h 1 a ", "join i h", "come i 5 a ")
        self.asks(
            desk, ("why a", "- first"), ("why b", "a heads old walls"), ("why c", "a own"), ("why d", "- ring d e"), ("why e", "d own"),
            ("why q", "p told c 1"), ("why p", "- first"), ("why h", "- hand"), ("why i", "h hand"))

    def test_a_longer_ring(self):
        desk = started("come a 5 c ", "come b 4 a ", "come c 6 b ")
        self.asks(desk, ("why b", "- ring b a c"), ("why a", "c own"), ("way a", "a c b"))

    def test_no_places(self):
        for desk in (Desk(), started()):
            for name in ("zz", "p", "q", "0"):
                for word in ("lines", "counts", "why", "way", "answers", "next", "who"):
                    self.refused(NoPlace, desk, f"{word} {name}")
                self.refused(NoPlace, desk, f"page {name} 1 0")
                self.refused(NoPlace, desk, f"meet {name} zz")
        self.refused(NoPlace, desk, "meet a zz")
        self.refused(NoPlace, desk, "meet zz a")


class Wishes(Case):
    def test_holds(self):
        desk = started("come a 3 - ", "come b 5 a ", "come c 6 b ")
        self.asks(
            desk, ("wish a/  b/    c", "-"), ("wish a */  b ?/    c", "-"), ("wish a/  b/  c", "c>a"), ("wish a/b/  c", "b>-"),
            ("wish x/  a/    b/      c", "a>x"), ("wish a/b/c", "b>- c>-"))

    def test_without_text(self):
        self.asks(Desk(), ("wish", "-"))
        self.refused(NoWish, started(), "wish")

    def test_of_the_pack_alone(self):
        # Neither the hands nor the rules of the box count.
        desk = started("rules ahead re", "come a 1 - Walls", "come b 2 - re: walls", "come c 3 a ", "split c")
        self.asks(desk, ("wish a/  c/b", "-"), ("wish a/  b/  c", "b>a"), ("wish a/b/c", "c>-"))

    def test_no_wishes(self):
        desk = started("come a 3 - ", "come b 5 a ")
        for row in ("wish a", "wish b", "wish x", "wish a/  b/x", "wish a/  b/  x", "wish a/  b/    x"):
            self.refused(NoWish, desk, row)
        self.refused(NoWish, Desk(), "wish a")

    def test_bad_rows(self):
        desk = started("come a 3 - ", "come b 5 a ")
        for text, row in ((" a", 0), ("A", 0), ("/", 0), ("a/", 1), ("a/ b", 1), ("a/    b", 1), ("a/b/a", 2), ("a/  b/  c !", 2),
                          ("a/  b?", 1), (" ", 0), ("  ", 0), ("a//b", 1), ("a\tb", 0), ("\xe9", 0), ("a/b ", 1), ("  a", 0)):
            self.refused(NoText, desk, "wish " + text, row)

    def test_what_is_drawn_is_wished(self):
        # (h): of a box without rules the hands told make just the trees drawn.
        dice = random.Random(82)
        for _ in range(60):
            desk, letters = Desk(), drawn_pack(dice) or (("a", 1, "", ()),)
            for one in letters:
                desk.say(show_deed(("come", one)))
            names = sorted({one[0] for one in letters}) + ["x", "q"]
            for _ in range(dice.randrange(6)):
                one, other = dice.sample(names, 2)
                try:
                    desk.say(dice.choice((f"join {one} {other}", f"split {one}")))
                except Ring:
                    pass
            picture = desk.say("draw")
            held = desk.say("wish " + picture)
            fresh = Desk()
            for one in letters:
                fresh.say(show_deed(("come", one)))
            for mark in held.split(" ") if held != "-" else []:
                name, elder = mark.split(">")
                fresh.say(f"split {name}" if elder == "-" else f"join {name} {elder}")
            self.assertEqual(fresh.say("draw"), picture)


def word_of(tie):
    return "!" if tie is None else tie[0] or "-"


def changes_of(changed):
    return "; ".join(f"{name} {word_of(one)} {word_of(other)}" for name, one, other in changed) or "-"


def names_of(names):
    return " ".join(names) or "-"


def lines_of(lines):
    return names_of([f"{depth}.{name}" for depth, name in lines])


def reason_of(tie):
    elder, reason = tie
    flat = []
    for part in reason:
        flat += part if isinstance(part, tuple) else [str(part)]
    return " ".join([elder or "-"] + flat)


def who_of(who):
    return names_of(who[0] + (("/",) + who[1] if who[1] else ()))


def answer_of(box, row):
    """What a box tells to a row, written down: each question by itself."""
    word, *rest = row.split(" ")
    grove = box.grove()
    if word in ("back", "again"):
        return changes_of(getattr(box, word)(int(rest[0])))
    if word in ("talks", "empties"):
        return names_of(getattr(grove, word)())
    if word == "draw":
        return drawn(grove).replace("\n", "/") or "-"
    if word == "wish":
        wish = read_drawn(row[5:].replace("/", "\n"))
        if not is_wish(box.pack(), wish):
            raise NoWish("none")
        return names_of([f"{name}>{elder or '-'}" for name, elder in fewest(box.pack(), wish)])
    if word == "log":
        return (show_log(box.log()).split("\n") if box.log() else [])[int(rest[0])]
    if word == "page":
        return lines_of(grove.page(rest[0], int(rest[1]), int(rest[2])))
    if word == "meet":
        return grove.meeting(*rest) or "-"
    tellers = {
        "lines": lambda name: lines_of(grove.lines(name)), "counts": lambda name: " ".join(map(str, grove.counts(name))),
        "why": lambda name: reason_of(grove.tie(name)), "way": lambda name: names_of(grove.upward(name)),
        "answers": lambda name: names_of(grove.answers(name)), "next": lambda name: grove.unread(name) or "-",
        "who": lambda name: who_of(grove.who(name))}
    if word in tellers:
        return tellers[word](rest[0])
    return changes_of(box.do(read_deed(row)))


def drawn_row(dice, letters, many):
    """A row by chance."""
    names = "abcdefgpqx"
    word = dice.choice(("back", "again", "talks", "empties", "draw", "wish", "log", "page", "meet", "lines", "counts", "why", "way",
                        "answers", "next", "who") + ("deed",) * 14)
    if word == "deed":
        return show_deed(drawn_deed(dice, letters))
    if word in ("talks", "empties", "draw"):
        return word
    if word in ("back", "again", "log"):
        return f"{word} {dice.randrange(many + 2)}"
    if word == "page":
        return f"page {dice.choice(names)} {dice.randrange(1, 4)} {dice.randrange(3)}"
    if word == "meet":
        return f"meet {dice.choice(names)} {dice.choice(names)}"
    if word == "wish":
        depth, rows = 0, []
        for name in dice.sample(sorted({one[0] for one in letters}), len({one[0] for one in letters})):
            rows.append("  " * depth + name + dice.choice(("", " *", " ?")))
            depth = dice.randrange(depth + dice.choice((2, 2, 2, 2, 3)))
        return "wish " + "/".join(rows)
    return f"{word} {dice.choice(names)}"


class Whole(Case):
    def told(self, ask, *things):
        try:
            return ask(*things)
        except IndexError:
            return (NoDeed, None)
        except TalkError as error:
            return (error.__class__, getattr(error, "row", None))

    def test_as_a_box_does(self):
        dice = random.Random(83)
        seen = {}
        for _ in range(60):
            desk, box, letters = Desk(), Box(()), drawn_pack(dice) or (("a", 1, "", ()),)
            if dice.random() < 0.6:
                self.assertEqual(desk.say("rules " + show_rules(RULES)), "done")
                box = Box(read_rules(show_rules(RULES)))
            for _ in range(60):
                row = drawn_row(dice, letters, len(box.log()))
                self.assertTrue(is_row(row), row)
                answer = self.told(desk.say, row)
                self.assertEqual(answer, self.told(answer_of, box, row), row)
                refusal = answer[0] if isinstance(answer, tuple) else None
                seen[refusal] = seen.get(refusal, 0) + 1
            log = [desk.say(f"log {at}") for at in range(len(box.log()))]
            self.assertEqual("\n".join(log), show_log(box.log()))
        for refusal in (None, NoDeed, NoPlace, Ring, NoWish, NoText):
            self.assertGreater(seen.get(refusal, 0), 5, refusal)

    def test_beside_one_another(self):
        one, other = started(), Desk()
        kept = state(one)
        for row in ("come z 1 - ", "read z", "rules ahead re", "join z y", "back 0"):
            other.say(row)
            self.assertEqual(state(one), kept)
        one.say("rules")
        self.assertEqual(other.say("log 0"), "- join z y")

    def test_refused_rows_change_nothing(self):
        # With refused rows in between a desk tells as without them.
        dice = random.Random(84)
        desk, plain = Desk(), Desk()
        letters = drawn_pack(dice)
        for at in range(200):
            row = drawn_row(dice, letters, at // 3)
            self.told(desk.say, dice.choice(NO_ROWS))
            self.told(desk.say, "lines zzz")
            self.told(desk.say, "back 999999999")
            self.assertEqual(self.told(desk.say, row), self.told(plain.say, row))
        self.assertEqual(state(desk), state(plain))


if __name__ == "__main__":
    unittest.main()
