"""What is tied otherwise in one forest than in another."""

from answertrees.climbs import ties_in


def changes(before, behind):
    old = ties_in(before)
    new = ties_in(behind)
    found = []
    for name in sorted(set(old) | set(new)):
        one = old.get(name)
        other = new.get(name)
        if one != other:
            found.append((name, one, other))
    return tuple(found)
