"""The trees by names, and which letter speaks for each."""

from answertrees.climbs import elders_in, roots_in
from answertrees.elders import standing
from answertrees.rings import by_names


def voices(pack, marks):
    roots = roots_in(elders_in(by_names(pack, marks)))
    first = {}
    for letter in standing(pack):
        name = letter[0]
        root = roots[name]
        # The root's own letter goes ahead of all days.
        rank = (name != root, letter[1], name)
        first[root] = min(rank, first.get(root, rank))
    return tuple([(root, first[root][2]) for root in sorted(first)])
