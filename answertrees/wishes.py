"""Wishes: trees that somebody wants of the letters of a pack."""

from answertrees.elders import standing
from answertrees.forests import shown
from answertrees.hands import is_marks


def is_wish(pack, thing):
    # What is asked of the names and elders alone is asked of marks too.
    if not is_marks(thing):
        return False
    above = {name: elder for name, elder in thing}
    if not all([elder is None or elder in above for name, elder in thing]):
        return False
    if not all([letter[0] in above for letter in standing(pack)]):
        return False
    return len(shown(pack, above)) == len(above)


def wish_of(forest):
    return tuple([(name, elder) for name, elder, reason in forest])
