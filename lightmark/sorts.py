"""The sort of a row: the first of the nine that fits."""

from lightmark.signs import is_name, is_parting_bar, name_of, split_cells, tidy, words_of

FENCE = "~~~"
DEEPEST_HEADING = 3
NAME_END = "]: "


def sort_of(row):
    bare = row.rstrip(" ")
    if bare == "":
        return ("empty",)
    if bare.startswith(">"):
        return ("quote", rest_of_quote(row))
    if bare == FENCE:
        return ("fence",)
    level = heading_level(bare)
    if level > 0:
        return ("heading", level, tidy(bare[level:]))
    if is_cells(bare):
        return ("cells", split_cells(bare[1:-1]))
    definition = definition_of(bare)
    if definition is not None:
        return definition
    return item_or_plain(bare)


def rest_of_quote(row):
    # Of the row and not of bare: the rest is a row itself, and a literal
    # row keeps the blanks at its end.
    return row[2:] if row.startswith("> ") else row[1:]


def heading_level(bare):
    # 0 stands for: no heading.
    level = len(bare) - len(bare.lstrip("="))
    if level > DEEPEST_HEADING or not bare[level:].startswith(" "):
        return 0
    return level


def is_cells(bare):
    # A bar alone would be its own first and last one.
    return len(bare) >= 2 and bare.startswith("|") and is_parting_bar(bare, len(bare) - 1)


def definition_of(bare):
    # Bare does not end with a blank, so a word always stands behind NAME_END.
    place = bare.find(NAME_END)
    if place < 0 or not bare.startswith("["):
        return None
    words = words_of(bare[place + len(NAME_END):])
    if bare.startswith("[^") and is_name(bare[2:place]):
        return ("note", name_of(bare[2:place]), " ".join(words))
    if is_name(bare[1:place]) and len(words) == 1:
        return ("name", name_of(bare[1:place]), words[0])
    return None


def item_or_plain(bare):
    body = bare.lstrip(" ")
    far = len(bare) - len(body)
    if body.startswith("- ") or body.startswith("+ "):
        return ("item", far, body[0], tidy(body[2:]))
    return ("plain", far, tidy(body))
