import itertools
import unittest

from answertrees.elders import borne, elders, standing
from answertrees.letters import is_pack
from tests.helper import asked, letter, pack


class Elders(unittest.TestCase):
    def told(self, name, row):
        return asked(self, elders, letter(name, row))

    def test_plain_rows(self):
        self.assertEqual(self.told("a", ()), ())
        self.assertEqual(self.told("a", ("b",)), ("b",))
        self.assertEqual(self.told("d", ("c", "a", "b")), ("c", "a", "b"))

    def test_own_name(self):
        self.assertEqual(self.told("a", ("a",)), ())
        self.assertEqual(self.told("a", ("a", "a", "a")), ())
        self.assertEqual(self.told("a", ("b", "a")), ("b",))
        self.assertEqual(self.told("a", ("a", "b")), ("b",))
        self.assertEqual(self.told("a", ("b", "a", "c", "a")), ("b", "c"))

    def test_twice_and_three_times(self):
        self.assertEqual(self.told("a", ("b", "b")), ("b",))
        self.assertEqual(self.told("a", ("b", "c", "b")), ("c", "b"))
        self.assertEqual(self.told("a", ("b", "c", "b", "c")), ("b", "c"))
        self.assertEqual(self.told("a", ("b", "c", "b", "d", "b")), ("c", "d", "b"))
        self.assertEqual(self.told("a", ("b", "a", "c", "b", "a", "b")), ("c", "b"))

    def test_each_row_of_few_names(self):
        for many in range(6):
            for row in itertools.product("abc", repeat=many):
                found = elders(letter("a", row))
                self.assertEqual(set(found), set(row) - {"a"})
                self.assertEqual(len(set(found)), len(found))
                lasts = ["".join(row).rindex(name) for name in found]
                self.assertEqual(lasts, sorted(lasts))


class Standing(unittest.TestCase):
    def test_empty(self):
        self.assertEqual(asked(self, standing, ()), ())

    def test_each_its_own_name(self):
        all_of_them = pack(letter("a"), letter("b", ("a",)), letter("c"))
        self.assertEqual(asked(self, standing, all_of_them), all_of_them)

    def test_several_of_one_name(self):
        early, late = letter("a", ("x",), 3, "z"), letter("a", (), 20, "a")
        alike = letter("a", ("y",), 3, "z")
        other = letter("b", (), 1)
        self.assertEqual(asked(self, standing, pack(early, late)), (early,))
        self.assertEqual(asked(self, standing, pack(late, alike, other, early)), (early, other))
        self.assertEqual(asked(self, standing, pack(late, other)), (late, other))

    def test_days_rise_as_numbers(self):
        self.assertEqual(standing(pack(letter("a", day=10), letter("a", day=9))), (letter("a", day=9),))

    def test_least_by_head_and_row(self):
        self.assertEqual(standing(pack(letter("a", head="b"), letter("a", head="B"))), (letter("a", head="B"),))
        self.assertEqual(standing(pack(letter("a", ("b",)), letter("a", ()))), (letter("a", ()),))

    def test_a_pack_again(self):
        all_of_them = pack(*[letter(name, row, day) for name in "cab" for row in ((), ("d",)) for day in (2, 1)])
        found = asked(self, standing, all_of_them)
        self.assertTrue(is_pack(found))
        self.assertEqual(found, tuple(letter(name, (), 1) for name in "abc"))
        self.assertEqual(standing(found), found)


class Borne(unittest.TestCase):
    def test_borne(self):
        first, second, other = letter("a", ("z",), 1), letter("a", (), 2), letter("b", ("a", "c"))
        all_of_them = pack(second, other, first)
        self.assertEqual(asked(self, borne, all_of_them, "a"), first)
        self.assertEqual(asked(self, borne, all_of_them, "b"), other)

    def test_names_that_no_letter_bears(self):
        all_of_them = pack(letter("b", ("a", "c")), letter("bb"))
        for name in ("a", "c", "z", "bbb", "0"):
            self.assertIsNone(asked(self, borne, all_of_them, name))
        self.assertIsNone(asked(self, borne, (), "a"))

    def test_the_one_that_stands(self):
        all_of_them = pack(*[letter(name, (), day, head) for name in "ab" for day in (1, 2) for head in "xy"])
        for found in standing(all_of_them):
            self.assertEqual(borne(all_of_them, found[0]), found)


if __name__ == "__main__":
    unittest.main()
