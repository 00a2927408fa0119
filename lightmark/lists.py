"""Lists: entries within entries."""

from lightmark.blocks import Block
from lightmark.parts import raw_of, told_parts

MOST_ENTRIES = 6


class Entry:
    def __init__(self, sign, parts, entries):
        self.sign = sign
        self.parts = list(parts)
        self.entries = list(entries)

    def told(self):
        return (self.sign, told_parts(self.parts), told_entries(self.entries))


class Listing(Block):
    def __init__(self, entries):
        self.entries = list(entries)

    def told(self):
        return ("list", told_entries(self.entries))

    def written(self):
        return entry_rows(self.entries, "")

    def texts(self):
        return entry_texts(self.entries)


def told_entries(entries):
    return [entry.told() for entry in entries]


def entry_rows(entries, ahead):
    rows = []
    for entry in entries:
        rows.append(ahead + entry.sign + " " + raw_of(entry.parts))
        rows.extend(entry_rows(entry.entries, ahead + "  "))
    return rows


def entry_texts(entries):
    texts = []
    for entry in entries:
        texts.append(list(entry.parts))
        texts.extend(entry_texts(entry.entries))
    return texts
