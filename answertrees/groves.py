"""A grove: a forest with what has been read, ready to be asked."""

from answertrees.claims import naming
from answertrees.climbs import climbed, elders_in, ties_in
from answertrees.elders import days_of
from answertrees.errors import NoPlace
from answertrees.forests import forest
from answertrees.letters import is_name, rises
from answertrees.trees import beneath_in, lines_of, sums_of, tops


def is_reads(thing):
    if not isinstance(thing, tuple) or not all([is_name(part) for part in thing]):
        return False
    return rises(thing)


class Grove:
    """The trees of a pack, asked by the names of their places."""

    def __init__(self, pack, marks, rules, reads):
        self.came = pack
        self.hands = marks
        self.told = forest(pack, marks, rules)
        self.bonds = ties_in(self.told)
        self.above = elders_in(self.told)
        self.days = days_of(pack)
        self.seen = {name: True for name in reads}
        self.sums = sums_of(self.above, self.days, self.seen)
        beneath = beneath_in(self.above)
        self.beneath = {name: sorted(beneath[name], key=lambda one: (self.day(one), one)) for name in beneath}
        self.roots = sorted(tops(self.above), key=lambda one: (self.counts(one)[2], one))
        self.order = lines_of(self.roots, self.beneath)
        self.spots = {line[1]: at for at, line in enumerate(self.order)}

    def ties(self):
        return self.told

    def check(self, name):
        # Only a text is looked up: other things may have no hash.
        if not isinstance(name, str) or name not in self.bonds:
            raise NoPlace("no place of this name is shown")

    def tie(self, name):
        self.check(name)
        return self.bonds[name]

    def upward(self, name):
        self.check(name)
        return tuple(climbed(self.above, name))

    def meeting(self, one, other):
        upward = self.upward(one)
        across = self.upward(other)
        for name in upward:
            if name in across:
                return name
        return None

    def day(self, name):
        self.check(name)
        return self.days[name] if name in self.days else self.sums[name][3]

    def answers(self, name):
        self.check(name)
        return tuple(self.beneath[name])

    def talks(self):
        return tuple(self.roots)

    def counts(self, name):
        self.check(name)
        return self.sums[name][:3]

    def empties(self):
        return tuple([name for name in self.above if name not in self.days])

    def who(self, name):
        self.check(name)
        return (naming(self.came, name), tuple([one for one, elder in self.hands if elder == name]))

    def span(self, name):
        self.check(name)
        at = self.spots[name]
        end = at + 1
        while end < len(self.order) and self.order[end][0] > self.order[at][0]:
            end += 1
        return (at, end)

    def lines(self, name):
        at, end = self.span(name)
        top = self.order[at][0]
        return tuple([(depth - top, one) for depth, one in self.order[at:end]])

    def whole(self):
        return tuple(self.order)

    def pages(self, name, size):
        return (len(self.lines(name)) + size - 1) // size

    def page(self, name, size, at):
        return self.lines(name)[at * size:(at + 1) * size]

    def is_unread(self, name):
        """Whether a letter bears the name and hasn't been read."""
        return name in self.days and name not in self.seen

    def unread(self, name):
        self.check(name)
        behind = self.spots[name] + 1
        for depth, one in self.order[behind:] + self.order[:behind]:
            if self.is_unread(one):
                return one
        return None
