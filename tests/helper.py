"""What several tests share: things of any kind, letters made short, and a careful asking."""

import copy
import re


class Odd:
    """A thing that can't be compared: whoever asks it fails."""

    def __eq__(self, other):
        raise RuntimeError("compared")

    def __lt__(self, other):
        raise RuntimeError("sorted")

    __hash__ = None


def nested(inner, wrap, depth=40):
    thing = inner
    for _ in range(depth):
        thing = wrap(thing)
    return thing


def odd_things():
    """Things that are no name, no letter, no rule, no mark, and no tuple of such."""
    return [
        0, 1, -1, 12, 10 ** 30, True, False, None,
        b"", b"a", bytearray(b"a"), [], ["a"], {}, {"a": "b"}, set(), {"a"}, frozenset({"a"}),
        object(), Odd(), len, str, int, range(3), iter(()), ValueError("a"), Ellipsis, NotImplemented,
        ((),), ([],), (None,), (True,), (1,), ("a", 1), (("a", 1),), (Odd(),), [()],
        nested((), lambda x: (x,)), nested([], lambda x: [x]), nested("a", lambda x: (x,)),
        nested((), lambda x: (x, x)), nested("a", lambda x: {"a": x}), nested(1, lambda x: (x, [x])),
    ]


def letter(name, row=(), day=0, head=""):
    return (name, day, head, tuple(row))


def pack(*letters):
    return tuple(sorted(letters))


def asked(test, ask, *things):
    """Ask twice; the answers must be the same and the things unchanged."""
    kept = copy.deepcopy(things)
    answer = ask(*things)
    test.assertEqual(ask(*things), answer)
    test.assertEqual(things, kept)
    return answer


RULES = (("ahead", "re"), ("label", "list"), ("behind", "was"))
HEADS = ("Walls", "Re: walls", "RE[2]:  Walls", "[list] walls (was)", "gates", "Re: Gates", "re: [list] re: gates", "", "Re:")


def drawn_pack(dice, names="abcdefg", strange="pqr"):
    """Letters by chance: some of the names come, some only stand in rows."""
    known = list(names + strange)
    letters = []
    for name in names:
        for _ in range(dice.choice((0, 0, 1, 1, 1, 1, 2))):
            row = [dice.choice(known) for _ in range(dice.choice((0, 0, 1, 1, 2, 3, 4)))]
            letters.append(letter(name, row, dice.randrange(5), dice.choice(HEADS)))
    return tuple(sorted(set(letters)))


def drawn_marks(dice, names="abcdefgpqrst"):
    """Marks by chance, put one behind the other where no ring comes of it."""
    above = {}
    for _ in range(dice.choice((0, 0, 1, 2, 3, 5))):
        name, elder = dice.choice(names), dice.choice(list(names) + [None] * 4)
        climb = elder
        while climb is not None and climb != name:
            climb = above.get(climb)
        if climb is None:
            above[name] = elder
    return tuple(sorted(above.items()))


def put(letters, *more):
    """A pack with further letters put to it."""
    return tuple(sorted(set(letters + more)))


def numbered(many, start="n"):
    """Names in their order, and their letters, each the answer of the one ahead."""
    names = [f"{start}{at:04}" for at in range(many)]
    rows = [()] + [(name,) for name in names[:-1]]
    return names, pack(*[letter(name, row) for name, row in zip(names, rows)])


LETTER = letter("a", ("b", "c"), 7, "Walls")
DEEDS = (
    ("come", LETTER), ("go", LETTER), ("join", "a", "b"), ("split", "a"), ("free", "a"), ("read", "a"), ("unread", "a"))

NO_DEEDS = (
    (), ("come",), ("go",), ("join",), ("split",), ("join", "a"), ("join", "a", "b", "c"), ("split", "a", "b"), ("split", "a", "b", "c"),
    ("free", "a", "b"), ("read", "a", "b"), ("unread", "a", None), ("come", LETTER, LETTER), ("go", LETTER, "a"),
    ("come", LETTER, "b"), ("come", LETTER, "a", "b"), ("come", "a", "b"),
    ("join", "a", "a"), ("join", "a", None), ("join", "a", "B"), ("join", "", "b"), ("join", "a", ""),
    ("join", "a", ("b",)), ("join", LETTER, "b"), ("join", "a", LETTER),
    ("come", "a"), ("go", "a"), ("split", LETTER), ("read", LETTER), ("free", LETTER), ("unread", LETTER),
    ("come", LETTER[:3]), ("come", LETTER + ("a",)), ("come", list(LETTER)), ("come", ("a", True, "", ())),
    ("come", ("a", -1, "", ())), ("come", ("a", 1, "", ["b"])), ("go", ("A", 1, "", ())), ("go", None),
    ("split", ""), ("split", "z" * 13), ("split", None), ("split", 1), ("split", ("a",)), ("read", ["a"]), ("unread", "A"),
    ("Come", LETTER), ("comes", LETTER), ("com", LETTER), ("", LETTER), ("leave", LETTER), ("tie", "a", "b"),
    ("splits", "a"), ("", "a"), (None, "a"), (1, "a"), (True, "a"), (b"read", "a"), (("read",), "a"), (["read"], "a"),
    ["read", "a"], ["come", LETTER], ["join", "a", "b"], "read a", "read", {"read": "a"}, ("a", "read"),
    (("read", "a"),), ("read", "a", ()))


def done(*deeds):
    """A log in which all deeds stand."""
    return tuple((deed, True) for deed in deeds)


def drawn_deed(dice, letters, names="abcdefgpqrst"):
    """A deed by chance, of one of the letters or of names."""
    word = dice.choice(("come",) * 4 + ("join",) * 3 + ("go", "split", "free", "read", "unread"))
    if word in ("come", "go"):
        return (word, dice.choice(letters))
    if word == "join":
        return (word, *dice.sample(names, 2))
    return (word, dice.choice(names))


NAME_FORM = "[a-z0-9]{1,12}"
LETTER_FORM = f"{NAME_FORM} (0|[1-9][0-9]{{0,7}}) (-|{NAME_FORM}(,{NAME_FORM}){{0,8}}) [ -~]{{0,60}}"
RULE_FORM = "(ahead|behind|label) [a-z]{1,8}"
RULES_FORM = f"({RULE_FORM}(, {RULE_FORM}){{0,5}})?"
SIGNS = list(" \n,-+09aAz~:[]/") + ["\t", "\r", "\x00", "\x7f", "\xe9", "\u0663", "\xb2", "\u2003", "\x85", "  ", "re"]


def written(form, text):
    return re.fullmatch(form, text) is not None


def so_written_deed(text):
    """Whether a text is a deed's: a join has two names that aren't one."""
    if written(f"(come|go) {LETTER_FORM}|(split|free|read|unread) {NAME_FORM}", text):
        return True
    names = re.fullmatch(f"join ({NAME_FORM}) ({NAME_FORM})", text)
    return names is not None and names[1] != names[2]


def near(text, dice=None, many=0):
    """The texts with one sign put in, left out or exchanged; of many only some, by chance."""
    found = []
    for at in range(len(text) + 1):
        found += [text[:at] + sign + text[at:] for sign in SIGNS]
        if at < len(text):
            found += [text[:at] + sign + text[at + 1:] for sign in SIGNS + [""]]
    return found if dice is None else dice.sample(found, min(many, len(found)))
