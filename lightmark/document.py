"""A document: a list of blocks."""

from lightmark.blocks import rows_between
from lightmark.signs import joined


class Document:
    def __init__(self, blocks):
        self.blocks = list(blocks)

    def told(self):
        return [block.told() for block in self.blocks]

    def written(self):
        # Every text has a row, that of no blocks too.
        return [""] if self.blocks == [] else rows_between(self.blocks)

    def text(self):
        return joined(self.written())

    def walk(self, worker):
        for block in self.blocks:
            block.walk(worker)
