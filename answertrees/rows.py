"""The rows that a desk takes: which texts are such, and what they say."""

from answertrees.letters import is_name
from answertrees.reading import deed_in, rules_in
from answertrees.texts import number_in

FORMS = {
    "back": ("number",),
    "again": ("number",),
    "talks": (),
    "empties": (),
    "lines": ("name",),
    "page": ("name", "size", "number"),
    "counts": ("name",),
    "why": ("name",),
    "way": ("name",),
    "answers": ("name",),
    "meet": ("name", "name"),
    "next": ("name",),
    "who": ("name",),
    "draw": (),
    "log": ("number",),
}


def thing_in(kind, text):
    """The name or number that a word of a row is, or None."""
    if kind == "name":
        return text if is_name(text) else None
    number = number_in(text)
    return None if kind == "size" and number == 0 else number


def words_said(row):
    """What a row of plain words says, or None."""
    word, *texts = row.split(" ")
    form = FORMS.get(word)
    if form is None or len(form) != len(texts):
        return None
    things = [thing_in(kind, text) for kind, text in zip(form, texts)]
    return None if None in things else (word, things)


def text_said(word, text):
    """What `rules` or `wish` says with a text behind it, or None."""
    if word == "wish":
        return (word, [text.replace("/", "\n")])
    rules = rules_in(text)
    return None if rules is None else (word, [rules])


def said(row):
    """What a thing handed to a desk says: (word, things), with the word `do` of a deed; or None where it is no row."""
    if not isinstance(row, str) or "\n" in row:
        return None
    word, blank, text = row.partition(" ")
    if word in ("rules", "wish"):
        # Alone they have no blank: behind a blank there must be something.
        return None if blank != "" and text == "" else text_said(word, text)
    deed = deed_in(row)
    return words_said(row) if deed is None else ("do", [deed])
