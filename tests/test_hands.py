import itertools
import unittest
from reprlib import repr as short

from answertrees.hands import is_marks
from tests.helper import asked, odd_things


class Marks(unittest.TestCase):
    def holds(self, *things):
        for thing in things:
            self.assertIs(asked(self, is_marks, thing), True, short(thing))

    def fails(self, *things):
        for thing in things:
            self.assertIs(is_marks(thing), False, short(thing))

    def test_marks(self):
        self.holds((), (("a", "b"),), (("a", None),), (("a", "b"), ("b", None)), (("a", None), ("b", "a")))
        self.holds((("a", "z"), ("b", "z"), ("c", None), ("d", "c")), (("0", "a"), ("a", "9")))
        self.holds((("abcdefghijkl", "b"),))

    def test_rising_by_names(self):
        self.fails((("b", "a"), ("a", None)), (("b", None), ("a", None)), (("a", "z"), ("c", "z"), ("b", "z")))
        self.fails((("a", None), ("9", None)))
        self.holds((("10", None), ("9", None)))

    def test_a_name_twice(self):
        self.fails((("a", "b"), ("a", "b")), (("a", "b"), ("a", "c")), (("a", None), ("a", "b")), (("a", None),) * 2)
        self.fails((("a", "b"), ("a", None)))

    def test_its_own_elder(self):
        self.fails((("a", "a"),), (("a", "b"), ("b", "b")), (("a", None), ("b", "b"), ("c", None)))

    def test_rings(self):
        self.fails((("a", "b"), ("b", "a")))
        self.fails((("a", "b"), ("b", "c"), ("c", "b")), (("a", "b"), ("b", "a"), ("c", "a")))
        self.fails((("a", "b"), ("b", "c"), ("c", "a")), (("a", "c"), ("b", "a"), ("c", "b")))
        self.fails((("a", None), ("b", "c"), ("c", "d"), ("d", "b"), ("e", "a")))
        self.fails((("a", "b"), ("b", "a"), ("c", "d"), ("d", "c")))

    def chain(self, many):
        return [(f"n{at:05}", f"n{at + 1:05}") for at in range(many)]

    def test_long_chains(self):
        for many in (2, 10, 3000):
            chain = self.chain(many)
            end = f"n{many:05}"
            self.holds(tuple(chain), tuple(chain + [(end, None)]), tuple(chain + [(end, "x")]))
            self.fails(tuple(chain + [(end, "n00000")]), tuple(chain + [(end, f"n{many // 2:05}")]))
            backwards = tuple(sorted((above, below) for below, above in chain))
            self.holds(backwards)

    def test_each_of_three_names(self):
        for elders in itertools.product((None, "a", "b", "c", "d"), repeat=3):
            marks = tuple(zip("abc", elders))
            above = dict(marks)
            good = True
            for name in "abc":
                at = above[name]
                for _ in range(4):
                    good = good and at != name
                    at = above.get(at)
            self.assertIs(is_marks(marks), good, marks)

    def test_form(self):
        self.fails((("a",),), (("a", "b", "c"),), (("a", "b", None),), ((),), (["a", "b"],), [("a", "b")], [], ("a", "b"))
        self.fails((("a", "b"), ["c", "d"]), (("A", "b"),), (("a", "B"),), (("", "b"),), (("a", ""),), (("a" * 13, "b"),))
        self.fails((("a", "b" * 13),), ((None, "a"),), ((None, None),), (("a", False),), (("a", ()),), (("a", ("b",)),))
        self.fails({"a": "b"}, "", "ab", ("ab",), ("ab", "cd"))

    def test_any_kind(self):
        self.fails(*odd_things())
        for thing in odd_things() + ["", ()]:
            self.fails((thing,), (("a", "b"), thing), (thing, ("a", "b")), ((thing, "a"),), ((thing, None),))
            if thing is not None:
                self.fails((("a", thing),), (("a", None), ("b", thing)))


if __name__ == "__main__":
    unittest.main()
