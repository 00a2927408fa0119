"""Point 14 once more, written another way, to hold the program against: trees told straight from rows."""

from lightmark.inline import parts_of
from lightmark.parts import told_parts
from lightmark.signs import is_rule
from lightmark.sorts import sort_of


def words(texts):
    return told_parts(parts_of(" ".join(texts)))


def sorted_rows(rows, deep):
    """The sorts of all rows, those that a fence holds as what they are."""
    sorts = []
    fenced = False
    for row in rows:
        sort = sort_of(row)
        if sort[0] == "fence":
            fenced = not fenced
        elif fenced:
            sort = ("held",)
        elif sort[0] == "quote" and deep == 4:
            sort = ("plain", 0, " ".join(row.split()))
        sorts.append(sort)
    return sorts


def spans(rows, deep):
    """Triples of a block's sort, its first row and the one behind its last."""
    sorts = sorted_rows(rows, deep)
    told = []
    ended = True
    for place, sort in enumerate(sorts):
        last = told[-1] if told and not ended else None
        more = False
        if last and sort[0] in ("quote", "cells", "item", "plain", "held", "fence"):
            head = last[0]
            more = head == sort[0] in ("quote", "cells", "item", "plain")
            more = more or (head in ("note", "item") and sort[0] == "plain" and sort[1] > 0)
            more = more or (head == "fence")
        if more:
            last[2] = place + 1
            ended = last[0] == "fence" and sort[0] == "fence"
        elif sort[0] == "empty":
            ended = True
        else:
            told.append([sort[0], place, place + 1])
            ended = sort[0] in ("heading", "name")
    return told


def entries(sorts):
    first, items = sorts[0][1], []
    for sort in sorts:
        if sort[0] == "plain":
            items[-1]["words"].append(sort[2])
            continue
        level = max(0, (sort[1] - first) // 2)
        level = min(level, 5, items[-1]["level"] + 1 if items else 0)
        items.append({"level": level, "sign": sort[2], "words": [sort[3]], "within": []})
    tops = []
    for place, item in enumerate(items):
        around = [other for other in items[:place] if other["level"] < item["level"]]
        (around[-1]["within"] if around else tops).append(item)

    def told(some):
        return [(item["sign"], words(item["words"]), told(item["within"])) for item in some]
    return told(tops)


def table(lines):
    columns = max(len(line) for line in lines)
    full = [[words([text]) if text else [] for text in line] + [[]] * (columns - len(line)) for line in lines]
    if len(lines) > 1 and all(is_rule(text) for text in lines[1]):
        sides = ["right" if ":" in text else "left" for text in lines[1]]
        return ("table", full[0], (sides + ["left"] * columns)[:columns], full[2:])
    return ("table", [], [], full)


def tree(rows, deep=0):
    told = []
    for sort, first, behind in spans(rows, deep):
        sorts = sorted_rows(rows[first:behind], deep)
        if sort == "heading":
            told.append(("heading", sorts[0][1], words([sorts[0][2]])))
        elif sort == "name":
            told.append(sorts[0])
        elif sort == "note":
            told.append(("note", sorts[0][1], words([one[2] for one in sorts])))
        elif sort == "fence":
            closed = behind - first > 1 and sort_of(rows[behind - 1]) == ("fence",)
            told.append(("literal", rows[first + 1:behind - closed]))
        elif sort == "quote":
            told.append(("quote", tree([one[1] for one in sorts], deep + 1)))
        elif sort == "cells":
            told.append(table([one[1] for one in sorts]))
        elif sort == "item":
            told.append(("list", entries(sorts)))
        else:
            told.append(("para", words([one[2] for one in sorts])))
    return told
