"""Heads peeled by rules, step by step, down to what they are about."""

from answertrees.heads import plain

FIGURES = "0123456789"


def is_count(text):
    return text != "" and all([sign in FIGURES for sign in text])


def without_ahead(text, word):
    if text.startswith(word + ":"):
        return text[len(word) + 1:]
    if not text.startswith(word + "["):
        return None
    count, mark, left = text[len(word) + 1:].partition("]:")
    if mark == "" or not is_count(count):
        return None
    return left


def without_label(text, word):
    mark = "[" + word + "]"
    return text[len(mark):] if text.startswith(mark) else None


def without_behind(text, word):
    mark = "(" + word + ")"
    return text[:len(text) - len(mark)] if text.endswith(mark) else None


def taken_off(text, rule):
    """What the rule leaves of a plain text, or None where it can take nothing off."""
    kind, word = rule
    if kind == "ahead":
        left = without_ahead(text, word)
    elif kind == "label":
        left = without_label(text, word)
    else:
        left = without_behind(text, word)
    return None if left is None else left.strip(" ")


def next_step(text, rules):
    for number, rule in enumerate(rules):
        left = taken_off(text, rule)
        if left is not None:
            return (number, left)
    return None


def peeled(head, rules):
    steps = []
    step = next_step(plain(head), rules)
    while step is not None:
        steps.append(step)
        step = next_step(step[1], rules)
    return tuple(steps)


def bare(head, rules):
    steps = peeled(head, rules)
    return steps[-1][1] if steps else plain(head)


def is_answer(head, rules):
    return any([rules[number][0] == "ahead" for number, left in peeled(head, rules)])
