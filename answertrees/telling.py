"""A desk's answers, written from what a box and a grove tell."""

NOTHING = "-"
NOT_SHOWN = "!"


def tell(parts):
    return " ".join(parts) if parts else NOTHING


def or_nothing(name):
    return NOTHING if name is None else name


def tell_tie(tie):
    return NOT_SHOWN if tie is None else or_nothing(tie[0])


def tell_changes(changed):
    rows = [f"{name} {tell_tie(one)} {tell_tie(other)}" for name, one, other in changed]
    return "; ".join(rows) if rows else NOTHING


def tell_lines(lines):
    return tell([f"{depth}.{name}" for depth, name in lines])


def tell_why(tie):
    elder, reason = tie
    parts = reason[1] if reason[0] == "ring" else reason[1:]
    return tell([or_nothing(elder), reason[0]] + [str(part) for part in parts])


def tell_who(naming, held):
    return tell(naming + ("/",) + held if held else naming)


def tell_marks(marks):
    return tell([f"{name}>{or_nothing(elder)}" for name, elder in marks])
