"""Reading: the blocks of rows, row by row and never further than needed."""

from lightmark.blocks import MOST_QUOTES, Heading, Literal, Naming, Noting, Para, Quote
from lightmark.document import Document
from lightmark.inline import parts_of
from lightmark.lists import MOST_ENTRIES, Entry, Listing
from lightmark.signs import is_rule, need_text, rows_of, tidy
from lightmark.sorts import sort_of
from lightmark.tables import Table


def read(text):
    triples = blocks_of(rows_of(need_text(text)), 0)
    return Document([triple[0] for triple in triples])


def blocks_of(rows, deep):
    triples = []
    place = 0
    while place < len(rows):
        if is_empty(rows[place]):
            place += 1
            continue
        found = block_at(rows, place, deep)
        triples.append((found[0], place, found[1]))
        place = found[1]
    return triples


def is_empty(row):
    return sort_of(row)[0] == "empty"


def block_at(rows, place, deep):
    sort = sort_at(rows, place, deep)
    if sort[0] == "heading":
        return (Heading(sort[1], parts_of(sort[2])), place + 1)
    if sort[0] == "name":
        return (Naming(sort[1], sort[2]), place + 1)
    if sort[0] == "note":
        return note_at(rows, place, deep)
    if sort[0] == "fence":
        return literal_at(rows, place)
    if sort[0] == "quote":
        return quote_at(rows, place, deep)
    if sort[0] == "cells":
        return table_at(rows, place, deep)
    if sort[0] == "item":
        return list_at(rows, place, deep)
    return para_at(rows, place, deep)


def sort_at(rows, place, deep):
    # Behind the last row is nothing that could go on with a block.
    if place >= len(rows):
        return ("empty",)
    sort = sort_of(rows[place])
    if sort[0] == "quote" and deep >= MOST_QUOTES:
        return ("plain", 0, tidy(rows[place]))
    return sort


def further_words(rows, place, deep):
    # Of the plain rows that go on with a note or an item.
    words = []
    sort = sort_at(rows, place, deep)
    while sort[0] == "plain" and sort[1] >= 1:
        words.append(sort[2])
        sort = sort_at(rows, place + len(words), deep)
    return words


def note_at(rows, place, deep):
    sort = sort_at(rows, place, deep)
    words = [sort[2]] + further_words(rows, place + 1, deep)
    return (Noting(sort[1], parts_of(" ".join(words))), place + len(words))


def literal_at(rows, place):
    lines = []
    behind = place + 1
    while behind < len(rows):
        row = rows[behind]
        behind += 1
        if sort_of(row)[0] == "fence":
            break
        lines.append(row)
    return (Literal(lines), behind)


def quote_at(rows, place, deep):
    rests = []
    sort = sort_at(rows, place, deep)
    while sort[0] == "quote":
        rests.append(sort[1])
        sort = sort_at(rows, place + len(rests), deep)
    blocks = [triple[0] for triple in blocks_of(rests, deep + 1)]
    return (Quote(blocks), place + len(rests))


def table_at(rows, place, deep):
    lines = []
    sort = sort_at(rows, place, deep)
    while sort[0] == "cells":
        lines.append(sort[1])
        sort = sort_at(rows, place + len(lines), deep)
    return (table_of(lines), place + len(lines))


def table_of(lines):
    columns = max([len(line) for line in lines])
    if len(lines) < 2 or not all([is_rule(text) for text in lines[1]]):
        return Table([], [], [cells_of(line, columns) for line in lines])
    sides = ["right" if text.endswith(":") else "left" for text in lines[1]]
    sides = sides + ["left"] * (columns - len(sides))
    return Table(cells_of(lines[0], columns), sides, [cells_of(line, columns) for line in lines[2:]])


def cells_of(texts, columns):
    lacking = columns - len(texts)
    return [parts_of(text) for text in texts + [""] * lacking]


def list_at(rows, place, deep):
    items = []
    sort = sort_at(rows, place, deep)
    while sort[0] == "item":
        words = [sort[3]] + further_words(rows, place + 1, deep)
        items.append((sort[1], sort[2], " ".join(words)))
        place += len(words)
        sort = sort_at(rows, place, deep)
    return (Listing(entries_from(leveled(items), 0, 0)[0]), place)


def leveled(items):
    # The far of each becomes its level.
    told = []
    first = items[0][0]
    level = -1
    for far, sign, words in items:
        level = min(max(0, (far - first) // 2), MOST_ENTRIES - 1, level + 1)
        told.append((level, sign, words))
    return told


def entries_from(items, place, level):
    # A level is never more than one above that of the item ahead: so what
    # stands right behind an item with a greater one is its first own entry.
    entries = []
    while place < len(items) and items[place][0] >= level:
        item = items[place]
        within = entries_from(items, place + 1, level + 1)
        entries.append(Entry(item[1], parts_of(item[2]), within[0]))
        place = within[1]
    return (entries, place)


def para_at(rows, place, deep):
    words = []
    sort = sort_at(rows, place, deep)
    while sort[0] == "plain":
        words.append(sort[2])
        sort = sort_at(rows, place + len(words), deep)
    return (Para(parts_of(" ".join(words))), place + len(words))
