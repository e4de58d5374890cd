"""Going up from names to their elders."""


def rings_in(above):
    """The rings among names whose elders a dict tells: of each the names, in their order up."""
    met = {}
    found = []
    for start in above:
        climbed = []
        name = start
        while name is not None and name not in met:
            met[name] = start
            climbed.append(name)
            name = above.get(name)
        # Met on this very climb: it has come round. Met on one before: that one told the ring.
        if name is not None and met[name] == start:
            found.append(climbed[climbed.index(name):])
    return found


def elders_in(ties):
    """The elder of each name, of ties told as (name, elder, reason)."""
    return {name: elder for name, elder, reason in ties}


def ties_in(ties):
    """The tie of each name, (elder, reason), of ties told so."""
    return {name: (elder, reason) for name, elder, reason in ties}


def climbed(above, name):
    """The names from one up, each once: in a ring once round."""
    found = {}
    while name is not None and name not in found:
        found[name] = True
        name = above.get(name)
    return list(found)


def roots_in(above):
    """The root of each name, where no ring is among them."""
    found = {}
    for start in above:
        passed = []
        name = start
        while name not in found and above[name] is not None:
            passed.append(name)
            name = above[name]
        root = found.get(name, name)
        found[name] = root
        for one in passed:
            found[one] = root
    return found
