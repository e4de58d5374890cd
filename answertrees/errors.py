"""The refusals of the program: each a class straight under TalkError."""


class TalkError(ValueError):
    """What every refusal is."""


class NoText(TalkError):
    """A text isn't written as it has to be; row is the number of its first wrong row."""

    def __init__(self, row):
        self.row = row


class NoPlace(TalkError):
    """A thing is no name of a place that is shown."""


class NoDeed(TalkError):
    """A thing is no deed, or no number of a deed that could be moved so."""


class Ring(TalkError):
    """The marks would go round in a ring."""


class NoWish(TalkError):
    """What is drawn is no wish for the letters that have come."""


class NoRow(TalkError):
    """A thing is none of the rows that a desk takes."""
