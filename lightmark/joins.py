"""Joins: which names and notes count, and what uses them."""

from lightmark.blocks import Naming, Noting
from lightmark.errors import BadName
from lightmark.parts import Link, Mark, Strong, told_parts


class Joined:
    def __init__(self, document):
        # A pair is ("link" or "note", name); what counts of each is its
        # target or its parts.
        self.counting = {}
        self.repeated = []
        self.used = {}
        self.lacking = []
        self.names = []
        self.numbers = {}
        blocks = blocks_within(document)
        for block in blocks:
            self.define(block)
        for block in blocks:
            # The words of a note are come to only if it gets a number.
            if not isinstance(block, Noting):
                self.use_texts(block.texts())
        self.use_notes()

    def define(self, block):
        if isinstance(block, Naming):
            self.define_first(("link", block.name), block.target)
        if isinstance(block, Noting):
            self.define_first(("note", block.name), list(block.parts))

    def define_first(self, pair, meaning):
        if pair in self.counting:
            self.repeated.append(pair)
        else:
            self.counting[pair] = meaning

    def use_texts(self, texts):
        for parts in texts:
            for pair in uses_of(parts):
                self.use(pair)

    def use(self, pair):
        if pair in self.used:
            return
        self.used[pair] = True
        if pair not in self.counting:
            self.lacking.append(pair)
        elif pair[0] == "note":
            self.names.append(pair[1])
            self.numbers[pair[1]] = len(self.names)

    def use_notes(self):
        # More notes may get a number while this goes on.
        done = 0
        while done < len(self.names):
            self.use_texts([self.parts_at(self.names[done])])
            done += 1

    def goes(self, name):
        return self.counting.get(("link", name)) if isinstance(name, str) else None

    def number(self, name):
        return self.numbers.get(name) if isinstance(name, str) else None

    def numbered(self):
        return list(self.names)

    def parts_at(self, name):
        if not isinstance(name, str) or ("note", name) not in self.counting:
            raise BadName("no note of this name counts")
        return list(self.counting[("note", name)])

    def words_at(self, name):
        return told_parts(self.parts_at(name))

    def lacks(self):
        return list(self.lacking)

    def twice(self):
        return list(self.repeated)

    def spare(self):
        return [pair for pair in self.counting if pair not in self.used]


def blocks_within(document):
    blocks = []
    document.walk(lambda block: blocks.append(block))
    return blocks


def uses_of(parts):
    uses = []
    for part in parts:
        if isinstance(part, Strong):
            uses.extend(uses_of(part.parts))
        if isinstance(part, Link):
            uses.append(("link", part.name))
        if isinstance(part, Mark):
            uses.append(("note", part.name))
    return uses
