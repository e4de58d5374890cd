"""Groves drawn as texts, a row for each line, and the trees read from such drawings."""

from answertrees.errors import NoText
from answertrees.letters import is_name
from answertrees.texts import needed, rows_in

DEEPER = "  "
EMPTY = " ?"
UNREAD = " *"


def drawn(grove):
    signs = {name: EMPTY for name in grove.empties()}
    rows = []
    for depth, name in grove.whole():
        sign = UNREAD if grove.is_unread(name) else signs.get(name, "")
        rows.append(DEEPER * depth + name + sign)
    return "\n".join(rows)


def place_in(row):
    """The (depth, name) that a row draws, or None."""
    text = row.lstrip(" ")
    blanks = len(row) - len(text)
    name, blank, sign = text.partition(" ")
    if not is_name(name) or blank + sign not in ("", EMPTY, UNREAD):
        return None
    return (blanks // 2, name) if blanks % 2 == 0 else None


def read_drawn(text):
    above = {}
    # The names from the root down to the row ahead: its depth is one less than how many they are.
    path = []
    for at, row in enumerate(rows_in(text)):
        depth, name = needed(place_in(row), at)
        if depth > len(path) or name in above:
            raise NoText(at)
        del path[depth:]
        above[name] = path[-1] if path else None
        path.append(name)
    return tuple([(name, above[name]) for name in sorted(above)])
