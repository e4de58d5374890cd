import itertools
import unittest

from answertrees.claims import chosen, claims, naming
from tests.helper import asked, letter, pack


class Naming(unittest.TestCase):
    def told(self, letters, name):
        return asked(self, naming, letters, name)

    def test_places_in_rows(self):
        letters = pack(letter("d", ("a", "b", "c")), letter("e", ("a",)), letter("f", ("c", "a")), letter("b"))
        self.assertEqual(self.told(letters, "a"), ("d", "e", "f"))
        self.assertEqual(self.told(letters, "b"), ("d",))
        self.assertEqual(self.told(letters, "c"), ("d", "f"))
        self.assertEqual(self.told(letters, "d"), ())

    def test_own_name_and_twice(self):
        letters = pack(letter("a", ("a", "b", "b")), letter("c", ("a", "b", "a")))
        self.assertEqual(self.told(letters, "a"), ("c",))
        self.assertEqual(self.told(letters, "b"), ("a", "c"))

    def test_a_letter_that_does_not_stand(self):
        letters = pack(letter("a", ("x",), 1), letter("a", ("y", "z"), 2))
        self.assertEqual(self.told(letters, "x"), ("a",))
        self.assertEqual(self.told(letters, "y"), ())
        self.assertEqual(self.told(letters, "z"), ())

    def test_names_that_nobody_knows(self):
        self.assertEqual(self.told((), "a"), ())
        self.assertEqual(self.told(pack(letter("a", ("b",))), "z"), ())


class Claims(unittest.TestCase):
    def told(self, letters, name):
        return asked(self, claims, letters, name)

    def test_places_from_one_on(self):
        letters = pack(letter("d", ("a", "b", "c"), 7), letter("e", ("c", "b"), 3))
        self.assertEqual(self.told(letters, "a"), ())
        self.assertEqual(self.told(letters, "b"), ((3, "e", 1), (7, "d", 1)))
        self.assertEqual(self.told(letters, "c"), ((7, "d", 2),))

    def test_rising_by_day_then_name(self):
        letters = pack(letter("a", ("x", "p"), 10), letter("b", ("x", "p"), 9), letter("c", ("x", "y", "p"), 9))
        self.assertEqual(self.told(letters, "p"), ((9, "b", 1), (9, "c", 2), (10, "a", 1)))

    def test_place_is_that_of_elders(self):
        letters = pack(letter("d", ("d", "a", "b", "d", "a"), 4))
        self.assertEqual(self.told(letters, "a"), ((4, "d", 1),))
        self.assertEqual(self.told(letters, "b"), ())
        self.assertEqual(self.told(letters, "d"), ())

    def test_a_letter_that_does_not_stand(self):
        letters = pack(letter("a", ("x", "p"), 1), letter("a", ("y", "q"), 2))
        self.assertEqual(self.told(letters, "p"), ((1, "a", 1),))
        self.assertEqual(self.told(letters, "q"), ())

    def test_of_a_name_with_a_letter_too(self):
        letters = pack(letter("b"), letter("c", ("a", "b"), 5))
        self.assertEqual(self.told(letters, "b"), ((5, "c", 1),))

    def test_names_that_nobody_knows(self):
        self.assertEqual(self.told((), "a"), ())
        self.assertEqual(self.told(pack(letter("a", ("b", "c"))), "z"), ())


class Chosen(unittest.TestCase):
    def told(self, letters, marks, name):
        return asked(self, chosen, letters, marks, name)

    def test_by_its_own_row(self):
        letters = pack(letter("c", ("a", "b")), letter("d", ("b", "d")), letter("b", ("a", "c", "a")))
        self.assertEqual(self.told(letters, (), "c"), ("b", ("own",)))
        self.assertEqual(self.told(letters, (), "d"), ("b", ("own",)))
        self.assertEqual(self.told(letters, (), "b"), ("a", ("own",)))

    def test_with_no_elders(self):
        # Others claim an elder for it; its own empty row goes ahead of them.
        letters = pack(letter("b"), letter("c", ("a", "b")), letter("a", ("a", "a")))
        self.assertEqual(self.told(letters, (), "b"), (None, ("first",)))
        self.assertEqual(self.told(letters, (), "a"), (None, ("first",)))

    def test_by_the_letter_that_stands(self):
        letters = pack(letter("b", ("x",), 1), letter("b", ("y",), 2))
        self.assertEqual(self.told(letters, (), "b"), ("x", ("own",)))

    def test_by_the_least_claim(self):
        letters = pack(letter("e", ("x", "p"), 10), letter("d", ("y", "p"), 9), letter("c", ("z", "p"), 11))
        self.assertEqual(self.told(letters, (), "p"), ("y", ("told", "d", 1)))

    def test_by_alike_days(self):
        letters = pack(letter("e", ("x", "p"), 9), letter("d", ("y", "w", "p"), 9))
        self.assertEqual(self.told(letters, (), "p"), ("w", ("told", "d", 2)))

    def test_several_by_the_same_letter(self):
        letters = pack(letter("e", ("x", "p", "q", "p", "r"), 9))
        self.assertEqual(self.told(letters, (), "p"), ("q", ("told", "e", 2)))
        self.assertEqual(self.told(letters, (), "q"), ("x", ("told", "e", 1)))
        self.assertEqual(self.told(letters, (), "r"), ("p", ("told", "e", 3)))

    def test_a_claim_by_a_row_with_its_own_name(self):
        letters = pack(letter("e", ("x", "e", "p"), 9))
        self.assertEqual(self.told(letters, (), "p"), ("x", ("told", "e", 1)))

    def test_without_a_claim(self):
        letters = pack(letter("e", ("p", "q"), 9))
        for name in ("p", "z", "0"):
            self.assertEqual(self.told(letters, (), name), (None, ("first",)))
        self.assertEqual(self.told((), (), "a"), (None, ("first",)))

    def test_a_claim_of_a_letter_that_does_not_stand(self):
        letters = pack(letter("a", (), 1), letter("a", ("y", "q"), 2))
        self.assertEqual(self.told(letters, (), "q"), (None, ("first",)))

    def test_by_a_mark_ahead_of_both(self):
        letters = pack(letter("b", ("a",)), letter("c", ("a", "p"), 3), letter("d"))
        held = (("b", "z"), ("d", "y"), ("p", "x"), ("q", "w"))
        self.assertEqual(self.told(letters, held, "b"), ("z", ("hand",)))
        self.assertEqual(self.told(letters, held, "d"), ("y", ("hand",)))
        self.assertEqual(self.told(letters, held, "p"), ("x", ("hand",)))
        self.assertEqual(self.told(letters, held, "q"), ("w", ("hand",)))
        split = (("b", None), ("d", None), ("p", None), ("q", None))
        for name in "bdpq":
            self.assertEqual(self.told(letters, split, name), (None, ("hand",)))
        self.assertEqual(self.told(letters, split, "c"), ("p", ("own",)))

    def test_an_elder_in_marks_alone(self):
        self.assertEqual(self.told((), (("a", "b"),), "b"), (None, ("first",)))
        self.assertEqual(self.told((), (("a", "b"),), "a"), ("b", ("hand",)))

    def test_held_where_it_answers_already(self):
        self.assertEqual(self.told(pack(letter("b", ("a",))), (("b", "a"),), "b"), ("a", ("hand",)))

    def test_as_claims_tell(self):
        rows = [row for many in range(4) for row in itertools.product("abp", repeat=many)]
        for one, other in itertools.product(rows, repeat=2):
            for day in (1, 2, 3):
                letters = pack(letter("a", one, 2), letter("b", other, day))
                found = claims(letters, "p")
                self.assertEqual(list(found), sorted(set(found)))
                elder, reason = chosen(letters, (), "p")
                self.assertEqual(reason, ("told",) + found[0][1:] if found else ("first",))
                self.assertEqual(elder is None, not found)
                for name in "abp":
                    self.assertLessEqual({row[1] for row in claims(letters, name)}, set(naming(letters, name)))


if __name__ == "__main__":
    unittest.main()
