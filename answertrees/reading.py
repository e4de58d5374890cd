"""Letters, packs, rules, deeds and logs read from their texts."""

from answertrees.deeds import LETTER_WORDS, is_deed
from answertrees.errors import NoText
from answertrees.heads import is_rules
from answertrees.letters import is_letter
from answertrees.texts import checked, needed, number_in, rows_in


def letter_in(text):
    """The letter that is written so, or None."""
    parts = text.split(" ", 3)
    if len(parts) < 4:
        return None
    name, day, names, head = parts
    row = () if names == "-" else tuple(names.split(","))
    letter = (name, number_in(day), head, row)
    return letter if is_letter(letter) else None


def rules_in(text):
    """The rules that are written so, or None."""
    if text == "":
        return ()
    rules = tuple([tuple(part.split(" ")) for part in text.split(", ")])
    return rules if is_rules(rules) else None


def deed_in(text):
    """The deed that is written so, or None."""
    word, blank, rest = text.partition(" ")
    if word in LETTER_WORDS:
        deed = (word, letter_in(rest))
    else:
        deed = tuple(text.split(" "))
    return deed if is_deed(deed) else None


def entry_in(text):
    """The deed of a log that is written so, with whether it stands, or None."""
    sign = text[:2]
    deed = deed_in(text[2:])
    if deed is None or sign not in ("+ ", "- "):
        return None
    return (deed, sign == "+ ")


def read_letter(text):
    return needed(letter_in(checked(text)), 0)


def read_pack(text):
    letters = []
    for at, row in enumerate(rows_in(text)):
        letter = needed(letter_in(row), at)
        if letters and letter <= letters[-1]:
            raise NoText(at)
        letters.append(letter)
    return tuple(letters)


def read_rules(text):
    return needed(rules_in(checked(text)), 0)


def read_deed(text):
    return needed(deed_in(checked(text)), 0)


def read_log(text):
    return tuple([needed(entry_in(row), at) for at, row in enumerate(rows_in(text))])
