"""Rules for heads, and heads made plain."""

KINDS = ("ahead", "behind", "label")
WORD_SIGNS = "abcdefghijklmnopqrstuvwxyz"
LONGEST_WORD = 8
MOST_RULES = 6


def is_kind(thing):
    return isinstance(thing, str) and thing in KINDS


def is_word(thing):
    if not isinstance(thing, str) or not 1 <= len(thing) <= LONGEST_WORD:
        return False
    return all([sign in WORD_SIGNS for sign in thing])


def is_rule(thing):
    if not isinstance(thing, tuple) or len(thing) != 2:
        return False
    return is_kind(thing[0]) and is_word(thing[1])


def is_rules(thing):
    if not isinstance(thing, tuple) or len(thing) > MOST_RULES:
        return False
    return all([is_rule(part) for part in thing])


def plain(head):
    # Parted by the blank alone: a bare split would take line feeds for blanks.
    words = head.lower().split(" ")
    return " ".join([word for word in words if word != ""])
