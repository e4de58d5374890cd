"""Marks: what hands hold under an elder or have split off."""

from answertrees.climbs import rings_in
from answertrees.letters import is_name, rises


def is_mark(thing):
    if not isinstance(thing, tuple) or len(thing) != 2 or not is_name(thing[0]):
        return False
    return thing[1] is None or is_name(thing[1]) and thing[1] != thing[0]


def has_ring(marks):
    """Whether marks, but for a ring perhaps, go round somewhere."""
    return rings_in({name: elder for name, elder in marks}) != []


def is_marks(thing):
    if not isinstance(thing, tuple) or not all([is_mark(part) for part in thing]):
        return False
    # By names alone: None and a name can't be compared.
    return rises([name for name, elder in thing]) and not has_ring(thing)
