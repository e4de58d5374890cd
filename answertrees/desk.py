"""A desk: a box that is spoken to by rows of text."""

from answertrees.boxes import Box
from answertrees.drawing import drawn, read_drawn
from answertrees.errors import NoDeed, NoRow, NoWish
from answertrees.fewest import fewest
from answertrees.rows import said
from answertrees.showing import show_entry
from answertrees.telling import NOTHING, or_nothing, tell, tell_changes, tell_lines, tell_marks, tell_who, tell_why
from answertrees.wishes import is_wish


def say_do(box, things):
    return tell_changes(box.do(things[0]))


def say_back(box, things):
    return tell_changes(box.back(things[0]))


def say_again(box, things):
    return tell_changes(box.again(things[0]))


def say_talks(box, things):
    return tell(box.grove().talks())


def say_empties(box, things):
    return tell(box.grove().empties())


def say_lines(box, things):
    return tell_lines(box.grove().lines(things[0]))


def say_page(box, things):
    name, size, at = things
    return tell_lines(box.grove().page(name, size, at))


def say_counts(box, things):
    return tell([str(number) for number in box.grove().counts(things[0])])


def say_why(box, things):
    return tell_why(box.grove().tie(things[0]))


def say_way(box, things):
    return tell(box.grove().upward(things[0]))


def say_answers(box, things):
    return tell(box.grove().answers(things[0]))


def say_meet(box, things):
    one, other = things
    return or_nothing(box.grove().meeting(one, other))


def say_next(box, things):
    return or_nothing(box.grove().unread(things[0]))


def say_who(box, things):
    names, held = box.grove().who(things[0])
    return tell_who(names, held)


def say_draw(box, things):
    text = drawn(box.grove())
    return text.replace("\n", "/") if text != "" else NOTHING


def say_wish(box, things):
    wish = read_drawn(things[0])
    if not is_wish(box.pack(), wish):
        raise NoWish("this is no wish for the letters that have come")
    return tell_marks(fewest(box.pack(), wish))


def say_log(box, things):
    log = box.log()
    if things[0] >= len(log):
        raise NoDeed("no deed has this number")
    return show_entry(log[things[0]])


SAYINGS = {
    "do": say_do,
    "back": say_back,
    "again": say_again,
    "talks": say_talks,
    "empties": say_empties,
    "lines": say_lines,
    "page": say_page,
    "counts": say_counts,
    "why": say_why,
    "way": say_way,
    "answers": say_answers,
    "meet": say_meet,
    "next": say_next,
    "who": say_who,
    "draw": say_draw,
    "wish": say_wish,
    "log": say_log,
}


class Desk:
    """A box, and the rows that are said of it."""

    def __init__(self):
        self.box = Box(())

    def say(self, row):
        found = said(row)
        if found is None:
            raise NoRow("this is no row that a desk takes")
        word, things = found
        if word == "rules":
            self.box = Box(things[0])
            return "done"
        saying = SAYINGS[word]
        return saying(self.box, things)
