"""A book: a sheet with all that is told of its text."""

from lightmark.joins import Joined
from lightmark.setter import set_rows
from lightmark.sheet import Sheet


class Book:
    def __init__(self, text):
        self.sheet = Sheet(text)

    def text(self):
        return self.sheet.text()

    def tree(self):
        return self.sheet.tree()

    def spans(self):
        return self.sheet.spans()

    def change(self, first, behind, rows, seen=None):
        return self.sheet.change(first, behind, rows, seen)

    def clean(self):
        return self.sheet.document().text()

    def plain(self, width):
        return set_rows(self.sheet.document(), width)

    def numbered(self):
        return self.joins().numbered()

    def lacks(self):
        return self.joins().lacks()

    def twice(self):
        return self.joins().twice()

    def spare(self):
        return self.joins().spare()

    def joins(self):
        return Joined(self.sheet.document())
