"""Names, letters and packs: which things are such."""

NAME_SIGNS = "abcdefghijklmnopqrstuvwxyz0123456789"
LONGEST_NAME = 12
LAST_DAY = 99999999
LONGEST_HEAD = 60
LONGEST_ROW = 9


def is_name(thing):
    if not isinstance(thing, str) or not 1 <= len(thing) <= LONGEST_NAME:
        return False
    return all([sign in NAME_SIGNS for sign in thing])


def is_whole(thing):
    # True and False are ints to Python, but no whole numbers here.
    return isinstance(thing, int) and not isinstance(thing, bool)


def is_day(thing):
    return is_whole(thing) and 0 <= thing <= LAST_DAY


def is_head(thing):
    if not isinstance(thing, str) or len(thing) > LONGEST_HEAD:
        return False
    return all([" " <= sign <= "~" for sign in thing])


def is_row(thing):
    if not isinstance(thing, tuple) or len(thing) > LONGEST_ROW:
        return False
    return all([is_name(part) for part in thing])


def is_letter(thing):
    if not isinstance(thing, tuple) or len(thing) != 4:
        return False
    return is_name(thing[0]) and is_day(thing[1]) and is_head(thing[2]) and is_row(thing[3])


def rises(things):
    return all([things[at] < things[at + 1] for at in range(len(things) - 1)])


def is_pack(thing):
    if not isinstance(thing, tuple):
        return False
    # Letters alone can surely be compared, so the order is asked last.
    return all([is_letter(part) for part in thing]) and rises(thing)
