"""A box: a log of deeds that goes on, and the trees that come of it."""

from answertrees.changes import changes
from answertrees.deeds import is_deed
from answertrees.errors import NoDeed, Ring
from answertrees.forests import forest
from answertrees.groves import Grove
from answertrees.hands import has_ring
from answertrees.letters import is_whole
from answertrees.logs import marks_of, pack_of, reads_of


class Box:
    """Deeds are done, taken back and put back again; each tells what it changes."""

    def __init__(self, rules):
        self.rules = rules
        self.entries = ()
        self.trees = ()

    def become(self, entries):
        """Take another log in the place of this one, and tell what that changes."""
        marks = marks_of(entries)
        if has_ring(marks):
            raise Ring("the hands would go round in a ring")
        trees = forest(pack_of(entries), marks, self.rules)
        found = changes(self.trees, trees)
        self.entries = entries
        self.trees = trees
        return found

    def do(self, deed):
        if not is_deed(deed):
            raise NoDeed("this is no deed")
        return self.become(self.entries + ((deed, True),))

    def turn(self, number, stands):
        """Let a deed that is taken back stand, or take back one that stands."""
        if not is_whole(number) or not 0 <= number < len(self.entries):
            raise NoDeed("no deed has this number")
        deed, stood = self.entries[number]
        if stood == stands:
            raise NoDeed("the deed is so already")
        return self.become(self.entries[:number] + ((deed, stands),) + self.entries[number + 1:])

    def back(self, number):
        return self.turn(number, False)

    def again(self, number):
        return self.turn(number, True)

    def log(self):
        return self.entries

    def pack(self):
        return pack_of(self.entries)

    def marks(self):
        return marks_of(self.entries)

    def reads(self):
        return reads_of(self.entries)

    def grove(self):
        return Grove(self.pack(), self.marks(), self.rules, self.reads())


def opened(rules, log):
    box = Box(rules)
    box.become(log)
    return box
