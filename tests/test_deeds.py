import unittest
from reprlib import repr as short

from answertrees.deeds import is_deed, is_log
from tests.helper import DEEDS, LETTER, NO_DEEDS, asked, odd_things


class IsDeed(unittest.TestCase):
    def test_each_deed(self):
        for deed in DEEDS:
            self.assertIs(asked(self, is_deed, deed), True, deed)
        self.assertIs(is_deed(("join", "b", "a")), True)
        self.assertIs(is_deed(("split", "z" * 12)), True)

    def test_no_deeds(self):
        for thing in NO_DEEDS:
            self.assertIs(asked(self, is_deed, thing), False, thing)

    def test_anything(self):
        for thing in odd_things():
            self.assertIs(is_deed(thing), False, short(thing))
            for word in ("come", "go", "join", "split", "free", "read", "unread", thing):
                self.assertIs(is_deed((word, thing)), False, (word, short(thing)))
                self.assertIs(is_deed((word, "a", thing)), False, (word, short(thing)))
                self.assertIs(is_deed((word, thing, "a")), False, (word, short(thing)))
            self.assertIs(is_deed((thing, "a")), False, short(thing))
            self.assertIs(is_deed((thing, LETTER)), False, short(thing))
            self.assertIs(is_deed(("come", ("a", thing, "", ()))), isinstance(thing, int) and not isinstance(thing, bool)
                          and 0 <= thing <= 99999999, short(thing))


class IsLog(unittest.TestCase):
    def test_logs(self):
        self.assertIs(asked(self, is_log, ()), True)
        whole = tuple((deed, stands) for deed in DEEDS for stands in (True, False))
        self.assertIs(asked(self, is_log, whole), True)
        self.assertIs(asked(self, is_log, whole[::-1] + whole), True)
        for entry in whole:
            self.assertIs(is_log((entry,)), True)
        # The marks of a log may have a ring.
        self.assertIs(is_log(((("join", "a", "b"), True), (("join", "b", "a"), True))), True)

    def test_no_logs(self):
        deed = DEEDS[3]
        for thing in ((deed, 1), (deed, 0), (deed, None), (deed, "True"), (deed,), (deed, True, True), [deed, True],
                      (True, deed), deed, (list(deed), True), (None, True), ((), True), (), deed + (True,)):
            self.assertIs(asked(self, is_log, (thing,)), False, thing)
            self.assertIs(asked(self, is_log, ((deed, True), thing)), False, thing)
            self.assertIs(asked(self, is_log, (thing, (deed, True))), False, thing)
        for thing in NO_DEEDS:
            self.assertIs(asked(self, is_log, ((thing, True),)), False, thing)
        self.assertIs(is_log([(deed, True)]), False)
        self.assertIs(is_log([]), False)
        self.assertIs(is_log((deed, True)), False)
        self.assertIs(is_log({deed: True}), False)
        self.assertIs(is_log(""), False)

    def test_anything(self):
        for thing in odd_things():
            self.assertIs(is_log(thing), False, short(thing))
            self.assertIs(is_log((thing,)), False, short(thing))
            self.assertIs(is_log(((thing, True),)), False, short(thing))
            self.assertIs(is_log(((DEEDS[0], thing),)), isinstance(thing, bool), short(thing))


if __name__ == "__main__":
    unittest.main()
