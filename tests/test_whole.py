"""The promises over the whole program, tried through boxes and desks that are filled by chance."""

import itertools
import random
import unittest

from answertrees.boxes import Box, opened
from answertrees.claims import chosen
from answertrees.desk import Desk
from answertrees.drawing import drawn, read_drawn
from answertrees.elders import borne, elders, standing
from answertrees.errors import Ring, TalkError
from answertrees.forests import forest
from answertrees.heads import is_rules
from answertrees.peeling import bare
from answertrees.reading import read_deed, read_letter, read_log, read_pack, read_rules
from answertrees.rings import by_names, places, rings
from answertrees.showing import show_deed, show_letter, show_log, show_pack, show_rules
from answertrees.ways import shaker, way
from answertrees.wishes import is_wish, wish_of
from tests.helper import HEADS, RULES, drawn_deed, drawn_pack, letter, put

NAMES = "abcdefgpqrst"


def filled(dice, rules):
    """A box by chance: deeds done, taken back and put back again."""
    box, letters = Box(rules), drawn_pack(dice) or (letter("a"),)
    for _ in range(dice.randrange(40)):
        many = len(box.log())
        try:
            if many and dice.random() < 0.2:
                dice.choice((box.back, box.again))(dice.randrange(many))
            else:
                box.do(drawn_deed(dice, letters))
        except TalkError:
            pass
    return box


def desk_of(box, rules):
    """A desk that was told the log of a box."""
    desk = Desk()
    if rules:
        desk.say("rules " + show_rules(rules))
    for at, (deed, stands) in enumerate(box.log()):
        desk.say(show_deed(deed))
        if not stands:
            desk.say(f"back {at}")
    return desk


def shown_names(desk):
    picture = desk.say("draw")
    return [] if picture == "-" else [row.strip(" ?*") for row in picture.split("/")]


class Case(unittest.TestCase):
    def boxes(self, seed, many):
        dice = random.Random(seed)
        for _ in range(many):
            rules = dice.choice(((), RULES))
            yield dice, rules, filled(dice, rules)

    def desks(self, seed, many):
        """Boxes, and desks that were told the same; such whose hands go round on the way are left out."""
        for dice, rules, box in self.boxes(seed, many):
            try:
                desk = desk_of(box, rules)
            except Ring:
                continue
            yield dice, rules, box, desk


class Trees(Case):
    def test_a_no_ring(self):
        for dice, rules, box, desk in self.desks(101, 120):
            names = shown_names(desk)
            self.assertEqual(len(names), len(set(names)))
            for name in names:
                climb = desk.say(f"way {name}").split(" ")
                self.assertEqual(len(climb), len(set(climb)))
                self.assertTrue(desk.say(f"why {climb[-1]}").startswith("- "))
            bearers = [one[0] for one in standing(box.pack())]
            inside = [line.split(".")[1] for root in desk.say("talks").split(" ") if names
                      for line in desk.say(f"lines {root}").split(" ")]
            self.assertEqual(sorted(inside), sorted(names))
            self.assertLessEqual(set(bearers), set(inside))
            for name in names:
                beneath = [line.split(".")[1] for line in desk.say(f"lines {name}").split(" ")]
                self.assertTrue(set(bearers) & set(beneath), name)

    def test_a_one_tie_of_each_ring_is_cut(self):
        for dice, rules, box in self.boxes(102, 150):
            letters, marks = box.pack(), box.marks()
            free = {name: chosen(letters, marks, name) for name in places(letters, marks)}
            tied = {name: (elder, reason) for name, elder, reason in by_names(letters, marks)}
            cut = [name for name in free if tied[name] != free[name]]
            self.assertEqual(sorted(cut), sorted(ring[0] for ring in rings(letters, marks)))
            round_about = set()
            for name in free:
                climb = free[name][0]
                for _ in free:
                    if climb is None or climb == name:
                        break
                    climb = free[climb][0]
                if climb == name:
                    round_about.add(name)
            self.assertEqual(round_about, {name for ring in rings(letters, marks) for name in ring})
            self.assertEqual(len(round_about), sum(len(ring) for ring in rings(letters, marks)))

    def test_b_in_whatever_order(self):
        for dice, rules, box, desk in self.desks(103, 100):
            rows = [show_deed(("come", one)) for one in box.pack()]
            rows += [f"split {name}" if elder is None else f"join {name} {elder}" for name, elder in box.marks()]
            rows += [f"read {name}" for name in box.reads()]
            for _ in range(2):
                dice.shuffle(rows)
                other = Desk()
                if rules:
                    other.say("rules " + show_rules(rules))
                for row in rows:
                    other.say(row)
                self.assertEqual(other.say("draw"), desk.say("draw"))
                for name in shown_names(desk):
                    self.assertEqual(other.say(f"why {name}"), desk.say(f"why {name}"))

    def test_b_taken_back_and_put_back(self):
        for dice, rules, box, desk in self.desks(104, 60):
            told = [desk.say("draw")] + [desk.say(f"why {name}") for name in shown_names(desk)]
            for at, (deed, stands) in enumerate(box.log()):
                if not stands:
                    continue
                never = box.log()[:at] + box.log()[at + 1:]
                try:
                    desk.say(f"back {at}")
                except Ring:
                    with self.assertRaises(Ring):
                        opened(rules, never)
                    continue
                self.assertEqual(desk.say("draw"), drawn(opened(rules, never).grove()).replace("\n", "/") or "-")
                desk.say(f"again {at}")
                self.assertEqual([desk.say("draw")] + [desk.say(f"why {name}") for name in shown_names(desk)], told)


class Reasons(Case):
    def least_claim(self, letters, name):
        found = []
        for one in letters:
            row = elders(one)
            if name in row[1:]:
                at = row.index(name)
                found.append((one[1], one[0], at, row[at - 1]))
        return min(found) if found else None

    def test_c_reasons(self):
        for dice, rules, box, desk in self.desks(105, 150):
            letters, held = standing(box.pack()), dict(box.marks())
            for name in shown_names(desk):
                elder, kind, *parts = desk.say(f"why {name}").split(" ")
                one = borne(box.pack(), name)
                if kind in ("ring", "heads"):
                    continue
                if name in held:
                    self.assertEqual((elder, kind), (held[name] or "-", "hand"))
                elif one is not None:
                    row = elders(one)
                    self.assertEqual((elder, kind), (row[-1], "own") if row else ("-", "first"))
                else:
                    least = self.least_claim(letters, name)
                    expected = ["-", "first"] if least is None else [least[3], "told", least[1], str(least[2])]
                    self.assertEqual([elder, kind] + parts, expected)

    def test_c_rings_and_heads(self):
        kinds = {"ring": 0, "heads": 0}
        for dice, rules, box, desk in self.desks(106, 300):
            held = dict(box.marks())
            tied = {name: elder for name, elder, reason in by_names(box.pack(), box.marks())}
            for name in shown_names(desk):
                elder, kind, *parts = desk.say(f"why {name}").split(" ")
                if kind not in kinds:
                    continue
                kinds[kind] += 1
                self.assertNotIn(name, held)
                self.assertIsNone(tied[name])
                if kind == "ring":
                    self.assertEqual((elder, parts[0]), ("-", name))
                    self.assertIn(tuple(parts), rings(box.pack(), box.marks()))
                else:
                    self.assertEqual(rules, RULES)
                    self.assertIsNone(tied[elder])
                    self.assertIn(" ".join(parts), [bare(one[2], rules) for one in standing(box.pack())])
        self.assertGreater(min(kinds.values()), 20)

    def test_c_who(self):
        for dice, rules, box, desk in self.desks(107, 100):
            for name in shown_names(desk):
                names = sorted(one[0] for one in standing(box.pack()) if name in elders(one))
                held = sorted(one for one, elder in box.marks() if elder == name)
                self.assertEqual(desk.say(f"who {name}"), " ".join(names + (["/"] + held if held else [])) or "-")

    def test_d_hands(self):
        for dice, rules, box, desk in self.desks(108, 150):
            names = shown_names(desk)
            for name, elder in box.marks():
                if name in names:
                    self.assertEqual(desk.say(f"why {name}"), f"{elder or '-'} hand")


class Ways(Case):
    def drawn_letters(self, dice, letters, marks):
        """Letters by chance of names that no letter bears."""
        names = [name for name in NAMES + "xyz" if borne(letters, name) is None]
        return [letter(name, [dice.choice(NAMES + "xyz") for _ in range(dice.randrange(4))], dice.randrange(6))
                for name in dice.sample(names, dice.randrange(1, 4))]

    def test_e_shakers(self):
        seen = {True: 0, False: 0}
        for dice, rules, box in self.boxes(109, 120):
            letters, marks = box.pack(), box.marks()
            for name in places(letters, marks):
                before, one = way(letters, marks, name), shaker(letters, marks, name)
                seen[one is None] += 1
                if one is not None:
                    self.assertIsNone(borne(letters, one[0]))
                    self.assertNotEqual(way(put(letters, one), marks, name), before)
                    continue
                for _ in range(3):
                    more = put(letters, *self.drawn_letters(dice, letters, marks))
                    self.assertEqual(way(more, marks, name), before)
        self.assertGreater(min(seen.values()), 100)

    def test_f_letters_of_empty_places(self):
        tried = 0
        for dice, rules, box, desk in self.desks(110, 300):
            held = dict(box.marks())
            for name in shown_names(desk):
                if borne(box.pack(), name) is not None:
                    continue
                climb = way(box.pack(), box.marks(), name)
                end = climb[-1]
                if borne(box.pack(), end) is None and not (end in held and held[end] is None) or len(climb) > 10:
                    continue
                tried += 1
                row = ",".join(reversed(climb[1:])) or "-"
                told = desk.say(f"come {name} {dice.randrange(9)} {row} {dice.choice(HEADS)}")
                for change in told.split("; ") if told != "-" else []:
                    one, before, behind = change.split(" ")
                    self.assertEqual(before, behind, (told, box.log()))
                desk = desk_of(box, rules)
        self.assertGreater(tried, 60)


class Changes(Case):
    def test_g_exactly(self):
        dice = random.Random(111)
        for _ in range(50):
            rules = dice.choice(((), RULES))
            desk, letters = Desk(), drawn_pack(dice) or (letter("a"),)
            if rules:
                desk.say("rules " + show_rules(rules))
            box, trees = Box(rules), {}
            for _ in range(30):
                many = len(box.log())
                deed = drawn_deed(dice, letters)
                row = f"{dice.choice(('back', 'again'))} {dice.randrange(many)}" if many and dice.random() < 0.3 else show_deed(deed)
                before = box.grove().ties()
                try:
                    told = desk.say(row)
                except TalkError as refusal:
                    self.assertRaises(refusal.__class__, self.turned, box, row)
                    continue
                found = self.turned(box, row)
                for change in told.split("; ") if told != "-" else []:
                    name, one, other = change.split(" ")
                    self.assertEqual(trees.pop(name, "!"), one)
                    if other != "!":
                        trees[name] = other
                self.assertEqual({name: elder or "-" for name, elder in self.picture(desk)}, trees)
                # Who isn't told is tied as ahead, with the same reason.
                told_of = [name for name, one, other in found]
                self.assertEqual([tie for tie in before if tie[0] not in told_of],
                                 [tie for tie in box.grove().ties() if tie[0] not in told_of])

    def turned(self, box, row):
        word, rest = row.split(" ", 1)
        if word in ("back", "again"):
            return getattr(box, word)(int(rest))
        return box.do(read_deed(row))

    def picture(self, desk):
        text = desk.say("draw")
        return read_drawn("" if text == "-" else text.replace("/", "\n"))


class Wishes(Case):
    def hands(self, names, many):
        """All rows of so many hands, of unlike names."""
        for held in itertools.combinations(names, many):
            choices = [[f"split {name}"] + [f"join {name} {elder}" for elder in names if elder != name] for name in held]
            yield from itertools.product(*choices)

    def made(self, letters, rows):
        """What a desk without rules draws, or None where the hands go round."""
        desk = Desk()
        try:
            for row in [show_deed(("come", one)) for one in letters] + list(rows):
                desk.say(row)
        except Ring:
            return None
        return desk.say("draw")

    def test_h_the_fewest(self):
        dice = random.Random(112)
        sizes = {}
        for _ in range(50):
            letters = drawn_pack(dice, "abc", "p") or (letter("a"),)
            names = sorted({one[0] for one in letters} | {"p"})
            above = {}
            for name in dice.sample(names, len(names)):
                above[name] = dice.choice([None] + list(above))
            box = Box(())
            for one in letters:
                box.do(("come", one))
            for name, elder in above.items():
                box.do(("split", name) if elder is None else ("join", name, elder))
            picture = drawn(box.grove()).replace("\n", "/")
            desk = Desk()
            for one in letters:
                desk.say(show_deed(("come", one)))
            told = desk.say("wish " + picture)
            rows = [mark.split(">") for mark in told.split(" ")] if told != "-" else []
            rows = [f"split {name}" if elder == "-" else f"join {name} {elder}" for name, elder in rows]
            self.assertEqual(self.made(letters, rows), picture)
            sizes[len(rows)] = sizes.get(len(rows), 0) + 1
            for many in range(min(len(rows), 3)):
                for fewer in self.hands(names, many):
                    self.assertNotEqual(self.made(letters, fewer), picture)
        self.assertGreaterEqual(len(sizes), 3)


class Walks(Case):
    def walked(self, box, rules):
        """The lines of a plain walk of the trees, by recursion over who is beneath whom."""
        days = {one[0]: one[1] for one in standing(box.pack())}
        trees = forest(box.pack(), box.marks(), rules)

        def inside(name):
            return [name] + [below for one, elder, reason in trees if elder == name for below in inside(one)]

        def letter_days(name):
            return [days[one] for one in inside(name) if one in days]

        def day(name):
            return days[name] if name in days else min(letter_days(name))

        def lines(name, depth=0):
            below = sorted((day(one), one) for one, elder, reason in trees if elder == name)
            return [(depth, name)] + [line for _, one in below for line in lines(one, depth + 1)]

        roots = sorted((max(letter_days(name)), name) for name, elder, reason in trees if elder is None)
        return [line for _, root in roots for line in lines(root)], {name: inside(name) for name, elder, reason in trees}, days

    def test_i_as_a_plain_walk(self):
        for dice, rules, box, desk in self.desks(113, 80):
            whole, inside, days = self.walked(box, rules)
            reads = box.reads()
            unread = [name for depth, name in whole if name in days and name not in reads]
            spots = [name for depth, name in whole]
            self.assertEqual(shown_names(desk), spots)
            self.assertEqual(desk.say("talks"), " ".join(name for depth, name in whole if depth == 0) or "-")
            self.assertEqual(desk.say("empties"), " ".join(sorted(set(spots) - set(days))) or "-")
            for at, (top, name) in enumerate(whole):
                bearers = [one for one in inside[name] if one in days]
                fresh = [one for one in bearers if one not in reads]
                self.assertEqual(desk.say(f"counts {name}"), f"{len(bearers)} {len(fresh)} {max(days[one] for one in bearers)}")
                lines = [f"{depth - top}.{one}" for depth, one in whole[at:at + len(inside[name])]]
                self.assertEqual(desk.say(f"lines {name}"), " ".join(lines))
                size = dice.randrange(1, 5)
                for number in range(len(lines) // size + 2):
                    page = lines[number * size:number * size + size]
                    self.assertEqual(desk.say(f"page {name} {size} {number}"), " ".join(page) or "-")
                later = [one for one in spots[at + 1:] if one in unread]
                self.assertEqual(desk.say(f"next {name}"), (later or unread or ["-"])[0])

    def renamed(self, thing, names, days):
        """A thing told with other names and days."""
        if isinstance(thing, tuple) and len(thing) == 4 and isinstance(thing[1], int):
            return (names[thing[0]], days[thing[1]], thing[2], tuple(names[one] for one in thing[3]))
        if isinstance(thing, tuple):
            return tuple(self.renamed(part, names, days) for part in thing)
        return names.get(thing, thing)

    def test_i_days_and_names_by_their_order(self):
        for dice, rules, box, desk in self.desks(114, 80):
            names = dict(zip(sorted(NAMES), sorted(f"n{number}" for number in dice.sample(range(10000), len(NAMES)))))
            days = dict(enumerate(sorted(dice.sample(range(99999999), 10))))
            log = tuple(((deed[0],) + self.renamed(deed[1:], names, days), stands) for deed, stands in box.log())
            other = opened(rules, log)
            ties = tuple((names[name], names.get(elder), reason if reason[0] == "heads" else self.renamed(reason, names, days))
                         for name, elder, reason in box.grove().ties())
            self.assertEqual(other.grove().ties(), ties)
            self.assertEqual(other.grove().whole(), tuple((depth, names[name]) for depth, name in box.grove().whole()))
            for name in shown_names(desk):
                self.assertEqual(other.grove().unread(names[name]), names.get(box.grove().unread(name)))
                self.assertEqual(other.grove().counts(names[name])[:2], box.grove().counts(name)[:2])
                self.assertEqual(other.grove().counts(names[name])[2], days[box.grove().counts(name)[2]])

    def test_i_the_order_of_rules(self):
        dice = random.Random(115)
        for _ in range(80):
            rules = tuple((dice.choice(("ahead", "label", "behind")), dice.choice(("re", "list", "was", "r"))) for _ in range(4))
            self.assertTrue(is_rules(rules))
            head = "".join(dice.choice(("Re: ", "re[1]:", "[list]", " (was)", "(re)", "x", " ", "r:", "[was] ")) for _ in range(6))
            self.assertEqual(len({bare(head, order) for order in itertools.permutations(rules)}), 1, head)


class Texts(Case):
    def test_j_what_is_written_is_read(self):
        for dice, rules, box in self.boxes(116, 100):
            self.assertEqual(read_log(show_log(box.log())), box.log())
            self.assertEqual(read_pack(show_pack(box.pack())), box.pack())
            self.assertEqual(read_rules(show_rules(rules)), rules)
            for one in box.pack():
                self.assertEqual(read_letter(show_letter(one)), one)
            for deed, stands in box.log():
                self.assertEqual(read_deed(show_deed(deed)), deed)
            again = opened(rules, read_log(show_log(box.log())))
            self.assertEqual(again.grove().ties(), box.grove().ties())

    def test_j_what_is_drawn_is_read(self):
        for dice, rules, box, desk in self.desks(117, 100):
            found = read_drawn(drawn(box.grove()))
            self.assertEqual(found, wish_of(box.grove().ties()))
            self.assertIs(is_wish(box.pack(), found), True)
            self.assertEqual(desk.say("draw"), drawn(box.grove()).replace("\n", "/") or "-")


if __name__ == "__main__":
    unittest.main()
