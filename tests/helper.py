"""What several tests share: things of any kind, letters made short, and a careful asking."""

import copy


class Odd:
    """A thing that can't be compared: whoever asks it fails."""

    def __eq__(self, other):
        raise RuntimeError("compared")

    def __lt__(self, other):
        raise RuntimeError("sorted")

    __hash__ = None


def nested(inner, wrap, depth=40):
    thing = inner
    for _ in range(depth):
        thing = wrap(thing)
    return thing


def odd_things():
    """Things that are no name, no letter, no rule, no mark, and no tuple of such."""
    return [
        0, 1, -1, 12, 10 ** 30, True, False, None,
        b"", b"a", bytearray(b"a"), [], ["a"], {}, {"a": "b"}, set(), {"a"}, frozenset({"a"}),
        object(), Odd(), len, str, int, range(3), iter(()), ValueError("a"), Ellipsis, NotImplemented,
        ((),), ([],), (None,), (True,), (1,), ("a", 1), (("a", 1),), (Odd(),), [()],
        nested((), lambda x: (x,)), nested([], lambda x: [x]), nested("a", lambda x: (x,)),
        nested((), lambda x: (x, x)), nested("a", lambda x: {"a": x}), nested(1, lambda x: (x, [x])),
    ]


def letter(name, row=(), day=0, head=""):
    return (name, day, head, tuple(row))


def pack(*letters):
    return tuple(sorted(letters))


def asked(test, ask, *things):
    """Ask twice; the answers must be the same and the things unchanged."""
    kept = copy.deepcopy(things)
    answer = ask(*things)
    test.assertEqual(ask(*things), answer)
    test.assertEqual(things, kept)
    return answer
