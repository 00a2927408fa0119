"""Tables: lines of cells, with a head or without."""

from lightmark.blocks import Block
from lightmark.parts import raw_of, told_parts
from lightmark.signs import cell_text, is_rule


class Table(Block):
    def __init__(self, head, sides, lines):
        self.head = own_cells(head)
        self.sides = list(sides)
        self.lines = [own_cells(line) for line in lines]

    def told(self):
        lines = [told_cells(line) for line in self.lines]
        return ("table", told_cells(self.head), list(self.sides), lines)

    def written(self):
        rows = [cells_row(line) for line in self.lines]
        if self.head == []:
            return rows
        return [cells_row(self.head), sides_row(self.sides)] + rows

    def texts(self):
        texts = own_cells(self.head)
        for line in self.lines:
            texts.extend(own_cells(line))
        return texts


def own_cells(cells):
    return [list(cell) for cell in cells]


def told_cells(cells):
    return [told_parts(cell) for cell in cells]


def cells_row(cells):
    return barred([written_cell(cell) for cell in cells])


def sides_row(sides):
    return barred(["--:" if side == "right" else "---" for side in sides])


def barred(texts):
    return "|" + "".join([" |" if text == "" else " " + text + " |" for text in texts])


def written_cell(parts):
    raw = raw_of(parts)
    # A row of rules would be read as that of the sides.
    return cell_text("\\" + raw if is_rule(raw) else raw)
