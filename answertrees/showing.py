"""Letters, packs, rules, deeds and logs written as texts."""

from answertrees.deeds import LETTER_WORDS


def show_letter(letter):
    name, day, head, row = letter
    names = ",".join(row) if row else "-"
    return f"{name} {day} {names} {head}"


def show_pack(pack):
    return "\n".join([show_letter(letter) for letter in pack])


def show_rules(rules):
    return ", ".join([f"{kind} {word}" for kind, word in rules])


def show_deed(deed):
    if deed[0] in LETTER_WORDS:
        return f"{deed[0]} {show_letter(deed[1])}"
    return " ".join(deed)


def show_entry(entry):
    deed, stands = entry
    return ("+ " if stands else "- ") + show_deed(deed)


def show_log(log):
    return "\n".join([show_entry(entry) for entry in log])
