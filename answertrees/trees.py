"""Plain walks of trees: who is beneath whom, what is summed up from below, and the lines in order."""


def beneath_in(above):
    """The names straight beneath each name, of a dict that tells elders."""
    found = {name: [] for name in above}
    for name in above:
        if above[name] is not None:
            found[above[name]].append(name)
    return found


def tops(above):
    """The names without an elder."""
    return [name for name in above if above[name] is None]


def top_down(above, beneath):
    """All names, each behind its elder."""
    found = []
    waiting = tops(above)
    while waiting:
        name = waiting.pop()
        found.append(name)
        waiting.extend(beneath[name])
    return found


def sums_of(above, days, reads):
    """Of each name at it and beneath: (letters, unread ones, last day, first day); days tells who bears a letter."""
    beneath = beneath_in(above)
    sums = {}
    for name in reversed(top_down(above, beneath)):
        parts = [sums[one] for one in beneath[name]]
        if name in days:
            parts.append((1, 0 if name in reads else 1, days[name], days[name]))
        sums[name] = (
            sum([part[0] for part in parts]),
            sum([part[1] for part in parts]),
            max([part[2] for part in parts]),
            min([part[3] for part in parts]),
        )
    return sums


def lines_of(talks, answers):
    """The lines (depth, name) of trees one behind the other, the roots and each name's answers in their order."""
    found = []
    waiting = [(0, name) for name in reversed(talks)]
    while waiting:
        depth, name = waiting.pop()
        found.append((depth, name))
        waiting.extend([(depth + 1, one) for one in reversed(answers[name])])
    return found
