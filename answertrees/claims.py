"""Who names a name, and which elder is chosen for it."""

from answertrees.elders import elders, standing


def naming(pack, name):
    return tuple([letter[0] for letter in standing(pack) if name in elders(letter)])


def rows_of(pack):
    """The elders of each letter, by its name."""
    return {letter[0]: elders(letter) for letter in standing(pack)}


def claims_of(pack):
    """All claims of a pack, by the names that they are for."""
    found = {}
    for letter in standing(pack):
        for at, name in enumerate(elders(letter)):
            # The first one of a row has nobody ahead that could be claimed as its elder.
            if at > 0:
                found.setdefault(name, []).append((letter[1], letter[0], at))
    return found


def claims(pack, name):
    return tuple(sorted(claims_of(pack).get(name, [])))


def choice(held, rows, claimed, name):
    if name in held:
        return (held[name], ("hand",))
    if name in rows:
        row = rows[name]
        return (row[-1], ("own",)) if row else (None, ("first",))
    if name in claimed:
        day, one, at = min(claimed[name])
        return (rows[one][at - 1], ("told", one, at))
    return (None, ("first",))


def choices(pack, marks, names):
    """What is chosen for each of many names: a dict of (elder, reason)."""
    held = {name: elder for name, elder in marks}
    rows = rows_of(pack)
    claimed = claims_of(pack)
    return {name: choice(held, rows, claimed, name) for name in names}


def chosen(pack, marks, name):
    return choices(pack, marks, (name,))[name]
