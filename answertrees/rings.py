"""The places of a pack, the rings among them, and the ties by names with each ring cut."""

from answertrees.claims import choices
from answertrees.climbs import rings_in
from answertrees.elders import days_of, elders, standing


def places(pack, marks):
    known = {}
    for letter in standing(pack):
        known[letter[0]] = True
        for name in elders(letter):
            known[name] = True
    for name, elder in marks:
        known[name] = True
        if elder is not None:
            known[elder] = True
    return tuple(sorted(known))


def cut_one(ring, held, days):
    """Who of a ring is cut. Somebody isn't held, for marks have no ring."""
    free = [name for name in ring if name not in held]
    empty = [name for name in free if name not in days]
    if empty:
        return min(empty)
    return min([(days[name], name) for name in free])[1]


def begun_with(ring, name):
    at = ring.index(name)
    return tuple(ring[at:] + ring[:at])


def cut_rings(pack, marks, ties):
    """The rings of ties, a dict of (elder, reason), each begun with the one that is cut."""
    held = {name: True for name, elder in marks}
    days = days_of(pack)
    round_about = rings_in({name: ties[name][0] for name in ties})
    return tuple(sorted([begun_with(ring, cut_one(ring, held, days)) for ring in round_about]))


def rings(pack, marks):
    return cut_rings(pack, marks, choices(pack, marks, places(pack, marks)))


def by_names(pack, marks):
    ties = choices(pack, marks, places(pack, marks))
    cut = cut_rings(pack, marks, ties)
    for ring in cut:
        ties[ring[0]] = (None, ("ring", ring))
    return tuple([(name, ties[name][0], ties[name][1]) for name in sorted(ties)])
