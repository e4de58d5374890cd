"""What comes of a log: the letters that are here, what hands hold, and what has been read."""


def last_deeds(log, words):
    """Of the standing deeds of these words the last one for each thing, a letter or a name."""
    found = {}
    for deed, stands in log:
        if stands and deed[0] in words:
            found[deed[1]] = deed
    return found


def pack_of(log):
    last = last_deeds(log, ("come", "go"))
    return tuple(sorted([letter for letter in last if last[letter][0] == "come"]))


def marks_of(log):
    last = last_deeds(log, ("join", "split", "free"))
    held = [name for name in sorted(last) if last[name][0] != "free"]
    return tuple([(name, last[name][2] if last[name][0] == "join" else None) for name in held])


def reads_of(log):
    last = last_deeds(log, ("read", "unread"))
    return tuple([name for name in sorted(last) if last[name][0] == "read"])
