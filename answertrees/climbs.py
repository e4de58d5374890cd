"""Going up from names to their elders."""


def rings_in(above):
    """The rings among names whose elders a dict tells: of each the names, in their order up."""
    met = {}
    found = []
    for start in above:
        climbed = []
        name = start
        while name is not None and name not in met:
            met[name] = start
            climbed.append(name)
            name = above.get(name)
        # Met on this very climb: it has come round. Met on one before: that one told the ring.
        if name is not None and met[name] == start:
            found.append(climbed[climbed.index(name):])
    return found
