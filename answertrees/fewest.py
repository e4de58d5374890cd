"""The fewest hands that make wished trees."""

from answertrees.claims import choices
from answertrees.climbs import climbed
from answertrees.elders import days_of
from answertrees.rings import cut_one, places


def fewest(pack, wish):
    known = places(pack, wish)
    free = choices(pack, (), known)
    moved = tuple([(name, elder) for name, elder in wish if free[name][0] != elder])
    ties = choices(pack, moved, known)
    above = {name: ties[name][0] for name in ties}
    # No ring passes a root that is split off, so of those held only the others can be in one.
    held = {name: True for name, elder in moved if elder is not None}
    days = days_of(pack)
    found = []
    for name, elder in moved:
        if elder is None:
            # Split off the root has no elder, so a climb that comes round to it ends there.
            ring = climbed(above, free[name][0])
            if ring[-1] == name and cut_one(ring, held, days) == name:
                continue
        found.append((name, elder))
    return tuple(found)
