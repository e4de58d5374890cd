"""Deeds and logs: which things are such."""

from answertrees.letters import is_letter, is_name

LETTER_WORDS = ("come", "go")
NAME_WORDS = ("split", "free", "read", "unread")


def is_deed(thing):
    if not isinstance(thing, tuple) or not 2 <= len(thing) <= 3 or not isinstance(thing[0], str):
        return False
    if len(thing) == 3:
        return thing[0] == "join" and is_name(thing[1]) and is_name(thing[2]) and thing[1] != thing[2]
    if thing[0] in LETTER_WORDS:
        return is_letter(thing[1])
    return thing[0] in NAME_WORDS and is_name(thing[1])


def is_entry(thing):
    if not isinstance(thing, tuple) or len(thing) != 2:
        return False
    return is_deed(thing[0]) and isinstance(thing[1], bool)


def is_log(thing):
    return isinstance(thing, tuple) and all([is_entry(part) for part in thing])
