"""The blocks of a text: what they tell, and their rows as they are written."""

from lightmark.parts import raw_of, told_parts
from lightmark.sorts import FENCE, sort_of

MOST_QUOTES = 4


class Block:
    # What holds for a block that has neither parts nor blocks within it.
    def texts(self):
        return []

    def walk(self, worker):
        worker(self)


class Heading(Block):
    def __init__(self, level, parts):
        self.level = level
        self.parts = list(parts)

    def told(self):
        return ("heading", self.level, told_parts(self.parts))

    def written(self):
        return ["=" * self.level + " " + raw_of(self.parts)]

    def texts(self):
        return [list(self.parts)]


class Para(Block):
    def __init__(self, parts):
        self.parts = list(parts)

    def told(self):
        return ("para", told_parts(self.parts))

    def written(self):
        raw = raw_of(self.parts)
        # The backslash takes the sign that would make it a row of another sort.
        return [raw] if sort_of(raw)[0] == "plain" else ["\\" + raw]

    def texts(self):
        return [list(self.parts)]


class Literal(Block):
    def __init__(self, lines):
        self.lines = list(lines)

    def told(self):
        return ("literal", list(self.lines))

    def written(self):
        return [FENCE] + self.lines + [FENCE]


class Quote(Block):
    def __init__(self, blocks):
        self.blocks = list(blocks)

    def told(self):
        return ("quote", [block.told() for block in self.blocks])

    def written(self):
        if self.blocks == []:
            return [">"]
        return [quoted(row) for row in rows_between(self.blocks)]

    def walk(self, worker):
        worker(self)
        for block in self.blocks:
            block.walk(worker)


class Naming(Block):
    def __init__(self, name, target):
        self.name = name
        self.target = target

    def told(self):
        return ("name", self.name, self.target)

    def written(self):
        return ["[" + self.name + "]: " + self.target]


class Noting(Block):
    def __init__(self, name, parts):
        self.name = name
        self.parts = list(parts)

    def told(self):
        return ("note", self.name, told_parts(self.parts))

    def written(self):
        return ["[^" + self.name + "]: " + raw_of(self.parts)]

    def texts(self):
        return [list(self.parts)]


def quoted(row):
    return ">" if row == "" else "> " + row


def rows_between(blocks):
    rows = []
    for number, block in enumerate(blocks):
        if number > 0:
            rows.append("")
        rows.extend(block.written())
    return rows
