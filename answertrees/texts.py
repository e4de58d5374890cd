"""What all texts share: their rows, and how numbers are written."""

from answertrees.errors import NoText
from answertrees.peeling import is_count

MOST_FIGURES = 9


def number_in(text):
    """The number that is written so, or None; none has more figures than days and a desk's numbers may have."""
    # How long it is must be asked ahead: Python itself refuses to read numbers of thousands of figures.
    if len(text) > MOST_FIGURES or not is_count(text):
        return None
    if text[0] == "0" and text != "0":
        return None
    return int(text)


def checked(text):
    if not isinstance(text, str):
        raise NoText(0)
    return text


def rows_in(text):
    rows = checked(text).split("\n")
    # The empty text has no rows, not an empty one.
    return [] if rows == [""] else rows


def needed(thing, row):
    """What a row was read as; refused where that is None."""
    if thing is None:
        raise NoText(row)
    return thing
