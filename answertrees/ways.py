"""The ways up by names, and which of them a letter can still change."""

from answertrees.claims import choices, rows_of
from answertrees.climbs import climbed, elders_in
from answertrees.rings import by_names, places


def way(pack, marks, name):
    return tuple(climbed(elders_in(by_names(pack, marks)), name))


def unknown_name(known):
    """A name that isn't among the known ones."""
    number = 0
    while str(number) in known:
        number += 1
    return str(number)


def first_open(pack, marks, known, name):
    """The first one up from a place, beyond cuts too, whose elder a letter of its own could yet tell; or None."""
    ties = choices(pack, marks, known)
    fixed = rows_of(pack)
    for marked, elder in marks:
        fixed[marked] = ()
    for one in climbed({place: ties[place][0] for place in ties}, name):
        if one not in fixed:
            return one
    return None


def shaker(pack, marks, name):
    known = places(pack, marks)
    empty = first_open(pack, marks, known, name)
    if empty is None:
        return None
    # No ring is cut below it: of a ring with such an empty place such a one is cut. So the way comes to it, and a
    # letter of its name that answers somebody yet unknown leads the way to where it never was.
    return (empty, 0, "", (unknown_name(known),))
