"""Whom a letter answers, and which letters of a pack stand."""


def elders(letter):
    own = letter[0]
    row = letter[3]
    return tuple([name for at, name in enumerate(row) if name != own and name not in row[at + 1:]])


def standing(pack):
    first = {}
    for letter in pack:
        # A pack rises, so the least letter of a name comes first.
        if letter[0] not in first:
            first[letter[0]] = letter
    return tuple(first.values())


def days_of(pack):
    """The day of each letter, by its name."""
    return {letter[0]: letter[1] for letter in standing(pack)}


def borne(pack, name):
    for letter in pack:
        if letter[0] == name:
            return letter
    return None
