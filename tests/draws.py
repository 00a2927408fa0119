"""Drawn texts and trees, to hold a promise against many of them; a seed always gives the same ones."""

import random

PART_SIGNS = "ab \\*`[]|-+=>~:^()'"
NAMES = ["a", "b", "c1", "note", "7", "abcdefghijkl"]


def draw(seed):
    return random.Random(seed)


def drawn_text(dice, signs, most):
    """A text of up to so many of these signs (or pieces)."""
    return "".join(dice.choice(signs) for _ in range(dice.randint(0, most)))


def drawn_signs(dice, signs=PART_SIGNS, most=5):
    """Signs that a part may have: not empty, no two blanks side by side."""
    while True:
        told = " ".join(piece for piece in drawn_text(dice, signs, most).split(" ") if piece)
        told = " " * dice.choice([0, 0, 0, 1]) + told + " " * dice.choice([0, 0, 0, 1])
        if told and "  " not in told:
            return told


def drawn_part(dice, strong_too):
    """One part as told, of any sort that may stand there."""
    sort = dice.choice(["plain", "plain", "code", "link", "note"] + ["strong"] * strong_too)
    if sort == "plain":
        return ("plain", drawn_signs(dice))
    if sort == "code":
        return ("code", drawn_signs(dice, PART_SIGNS.replace("`", "")))
    if sort == "link":
        return ("link", drawn_signs(dice), dice.choice(NAMES))
    if sort == "note":
        return ("note", dice.choice(NAMES))
    return ("strong", drawn_run(dice, 3, False))


def drawn_run(dice, most, strong_too):
    """One part or more as told, no two plain ones side by side."""
    told = []
    for _ in range(dice.randint(1, most)):
        part = drawn_part(dice, strong_too)
        if not (told and told[-1][0] == "plain" == part[0]):
            told.append(part)
    return told


def trimmed(told):
    """The same parts without a blank ahead of all or behind all; some may go."""
    told = list(told)
    while told and told[0][0] == "plain" and told[0][1].startswith(" "):
        told[0:1] = [("plain", told[0][1][1:])] if told[0][1] != " " else []
    while told and told[-1][0] == "plain" and told[-1][1].endswith(" "):
        told[-1:] = [("plain", told[-1][1][:-1])] if told[-1][1] != " " else []
    return told


def drawn_parts(dice, most=4):
    """A list of normal parts as told, one or more."""
    while True:
        told = trimmed(drawn_run(dice, most, True))
        if told:
            return told
