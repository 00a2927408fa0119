"""Drawn texts and trees, to hold a promise against many of them; a seed always gives the same ones."""

import random

PART_SIGNS = "ab \\*`[]|-+=>~:^()'"
NAMES = ["a", "b", "c1", "note", "7", "abcdefghijkl"]


def draw(seed):
    return random.Random(seed)


def drawn_text(dice, signs, most):
    """A text of up to so many of these signs (or pieces)."""
    return "".join(dice.choice(signs) for _ in range(dice.randint(0, most)))


def drawn_signs(dice, signs=PART_SIGNS, most=5):
    """Signs that a part may have: not empty, no two blanks side by side."""
    while True:
        told = " ".join(piece for piece in drawn_text(dice, signs, most).split(" ") if piece)
        told = " " * dice.choice([0, 0, 0, 1]) + told + " " * dice.choice([0, 0, 0, 1])
        if told and "  " not in told:
            return told


def drawn_part(dice, strong_too):
    """One part as told, of any sort that may stand there."""
    sort = dice.choice(["plain", "plain", "code", "link", "note"] + ["strong"] * strong_too)
    if sort == "plain":
        return ("plain", drawn_signs(dice))
    if sort == "code":
        return ("code", drawn_signs(dice, PART_SIGNS.replace("`", "")))
    if sort == "link":
        return ("link", drawn_signs(dice), dice.choice(NAMES))
    if sort == "note":
        return ("note", dice.choice(NAMES))
    return ("strong", drawn_run(dice, 3, False))


def drawn_run(dice, most, strong_too):
    """One part or more as told, no two plain ones side by side."""
    told = []
    for _ in range(dice.randint(1, most)):
        part = drawn_part(dice, strong_too)
        if not (told and told[-1][0] == "plain" == part[0]):
            told.append(part)
    return told


def trimmed(told):
    """The same parts without a blank ahead of all or behind all; some may go."""
    told = list(told)
    while told and told[0][0] == "plain" and told[0][1].startswith(" "):
        told[0:1] = [("plain", told[0][1][1:])] if told[0][1] != " " else []
    while told and told[-1][0] == "plain" and told[-1][1].endswith(" "):
        told[-1:] = [("plain", told[-1][1][:-1])] if told[-1][1] != " " else []
    return told


def drawn_parts(dice, most=4):
    """A list of normal parts as told, one or more."""
    while True:
        told = trimmed(drawn_run(dice, most, True))
        if told:
            return told


LINES = ["", " ", "a", "~~~ a", " ~~~", "~~", "~~~~", "> a", "= a", "| a |", "- a", "[a]: b", "  two  blanks  ", "\\", "[^a]: b"]
TARGETS = ["a", "http://b.c/d?e", "]:", "[a]:", "*b*", "\\", "|", "~~~"]


def drawn_entries(dice, deepest):
    """Entries as told, of which so many at most lie within each other."""
    told = []
    for _ in range(dice.choice([1, 1, 2, 3])):
        inner = drawn_entries(dice, deepest - 1) if deepest > 1 and dice.random() < 0.5 else []
        told.append((dice.choice("-+"), drawn_parts(dice, 2), inner))
    return told


def drawn_cells(dice, columns):
    sure = [[], [], [("plain", "---")], [("plain", "--:")], [("plain", "-")], [("plain", "|")], [("code", "a|b\\")]]
    return [dice.choice(sure) if dice.random() < 0.5 else drawn_parts(dice, 2) for _ in range(columns)]


def drawn_table(dice):
    columns = dice.choice([1, 1, 2, 3])
    lines = [drawn_cells(dice, columns) for _ in range(dice.randint(0, 3))]
    if lines and dice.random() < 0.5:
        return ("table", [], [], lines)
    return ("table", drawn_cells(dice, columns), [dice.choice(["left", "right"]) for _ in range(columns)], lines)


def drawn_para(dice):
    """A paragraph as told, often one whose row needs a backslash."""
    rows = ["> a", ">", "~~~", "= a", "=== b", "| a |", "||", "- a", "+ b", "\\", "---", "|", "-"]
    if dice.random() < 0.3:
        return ("para", [("plain", dice.choice(rows))])
    if dice.random() < 0.2:
        return ("para", [("note", dice.choice(NAMES)), ("plain", ": " + dice.choice(["a", "b c"]))])
    return ("para", drawn_parts(dice))


def drawn_block(dice, quotes=4):
    """A block as told, in which so many quotes at most lie within each other."""
    sort = dice.choice(["heading", "para", "para", "list", "table", "literal", "name", "note"] + ["quote"] * (quotes > 0))
    if sort == "heading":
        return ("heading", dice.randint(1, 3), drawn_parts(dice))
    if sort == "para":
        return drawn_para(dice)
    if sort == "list":
        return ("list", drawn_entries(dice, 6))
    if sort == "table":
        return drawn_table(dice)
    if sort == "literal":
        return ("literal", [dice.choice(LINES) for _ in range(dice.randint(0, 3))])
    if sort == "name":
        return ("name", dice.choice(NAMES), dice.choice(TARGETS))
    if sort == "note":
        return ("note", dice.choice(NAMES), drawn_parts(dice))
    return ("quote", drawn_tree(dice, 3, quotes - 1))


def drawn_tree(dice, most=4, quotes=4):
    """Blocks as told, up to so many."""
    return [drawn_block(dice, quotes) for _ in range(dice.randint(0, most))]


ROWS = [
    "", "", " ", "a", "b c", " a", "  b  c ", "    d", "- a", "+ b", "  - a", " + b", "   - c", "      - d", "        + e", "- ",
    "= a", "== b", "=== c", "==== d", "> a", ">", "> ", "> - a", ">   - b", "> > a", ">>b", "> > > > a", ">>>>> a", "> ~~~", ">~~~ ",
    ">  a", "| a |", "|a|b|", "| --- |", "|---|--:|", "|-:|", "| - a |", "||", "| \\| |", "|a\\|", "~~~", "~~~ ", " ~~~", "~~~a",
    "[a]: b", "[B]: c ", "[a]: b c", "[^a]: b", "[^B]:  c  *d*", "[^a]:", "[^a] b", "[^b]: [x](y)[^c]", " [a]: b", "*a", "b*", "`c",
    "[l](m)[^n]", "\\- a", "\\", "a\\", "> | a |", "> | - |", "> [^q]: r", ">  s", "> [q]: r", "*", "**", "---", "> = h",
]


def drawn_rows(dice, most=12):
    """Rows of every sort and what is nearly of one."""
    rows = []
    for _ in range(dice.randint(0, most)):
        rows.append(dice.choice(ROWS) if dice.random() < 0.9 else drawn_text(dice, " >~=|\\[]^:-+a*`", 6))
    return rows


def drawn_marked_text(dice, most=12):
    return "\n".join(drawn_rows(dice, most))
