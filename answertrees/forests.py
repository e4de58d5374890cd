"""The forest: the trees by names, those put together whose heads are alike."""

from answertrees.climbs import elders_in, ties_in
from answertrees.elders import standing
from answertrees.peeling import bare, is_answer
from answertrees.rings import by_names
from answertrees.voices import voices


def alike_trees(pack, marks, rules):
    """By bare text the trees that heads may tie: of each (whether an answer, day, voice, root)."""
    letters = {letter[0]: letter for letter in standing(pack)}
    # A root has no elder, so a mark of it is one that splits it off.
    marked = {name: True for name, elder in marks}
    found = {}
    for root, voice in voices(pack, marks):
        day, head = letters[voice][1:3]
        text = bare(head, rules)
        if root not in marked and text != "":
            found.setdefault(text, []).append((is_answer(head, rules), day, voice, root))
    return found


def ties_by_heads(pack, marks, rules):
    """The ties (elder, reason) of those roots that heads tie."""
    found = {}
    for text, trees in alike_trees(pack, marks, rules).items():
        leader = min(trees)
        for tree in trees:
            if tree != leader and tree[0]:
                found[tree[3]] = (leader[3], ("heads", text))
    return found


def shown(pack, above):
    """The places that bear a letter or have one beneath."""
    found = {}
    for letter in standing(pack):
        name = letter[0]
        while name is not None and name not in found:
            found[name] = True
            name = above[name]
    return found


def forest(pack, marks, rules):
    by_name = by_names(pack, marks)
    seen = shown(pack, elders_in(by_name))
    ties = ties_in(by_name)
    ties.update(ties_by_heads(pack, marks, rules))
    return tuple([(name, ties[name][0], ties[name][1]) for name in sorted(seen)])
