import unittest

from answertrees.errors import NoDeed, NoPlace, NoRow, NoText, NoWish, Ring, TalkError

REFUSALS = [(NoText, 3), (NoPlace, "a"), (NoDeed, "b"), (Ring, "c"), (NoWish, "d"), (NoRow, "e")]


class Errors(unittest.TestCase):
    def test_caught_as_what_it_is_under(self):
        for kind, value in REFUSALS:
            for caught in (kind, TalkError, ValueError):
                with self.assertRaises(caught):
                    raise kind(value)

    def test_caught_by_its_own_class_and_no_other(self):
        for kind, value in REFUSALS:
            taken = []
            for other, _ in REFUSALS:
                try:
                    raise kind(value)
                except other:
                    taken.append(other)
                except TalkError:
                    pass
            self.assertEqual(taken, [kind])

    def test_straight_under_talk_error(self):
        self.assertEqual(TalkError.__bases__, (ValueError,))
        for kind, _ in REFUSALS:
            self.assertEqual(kind.__bases__, (TalkError,))

    def test_talk_error_is_none_of_them(self):
        for kind, _ in REFUSALS:
            self.assertNotIsInstance(TalkError("a"), kind)

    def test_no_text_bears_its_row(self):
        first, second = NoText(0), NoText(7)
        self.assertEqual((first.row, second.row), (0, 7))
        with self.assertRaises(NoText) as caught:
            raise NoText(12)
        self.assertEqual(caught.exception.row, 12)
        self.assertEqual((first.row, second.row), (0, 7))

    def test_made_with_a_text(self):
        for kind, value in REFUSALS[1:]:
            self.assertIn(value, str(kind(value)))


if __name__ == "__main__":
    unittest.main()
