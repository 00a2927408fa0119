"""Columns side by side: their widths, and the rows of a row of cells."""

from lightmark.fill import filled


def shares(wants, room):
    if wants == [] or sum(wants) <= room:
        return list(wants)
    # One less at a time, the widest come down together: to the level, and
    # the first ones of them just one below those that are left above it.
    level = level_within(wants, room)
    over = sum(cut_down(wants, level + 1)) - room
    told = []
    for want in wants:
        if want > level and over > 0:
            told.append(level)
            over -= 1
        else:
            told.append(min(want, level + 1))
    return told


def level_within(wants, room):
    # The highest level that all wants, cut down to it, go into the room with.
    low = room // len(wants)
    high = max(wants)
    while high - low > 1:
        middle = (low + high) // 2
        if sum(cut_down(wants, middle)) <= room:
            low = middle
        else:
            high = middle
    return low


def cut_down(wants, level):
    return [min(want, level) for want in wants]


def beside(cells, widths, sides):
    columns = [filled(cell, width, no_lead) for cell, width in zip(cells, widths)]
    count = max([1] + [len(column) for column in columns])
    rows = []
    for number in range(count):
        texts = [
            padded(text_at(column, number), width, side)
            for column, width, side in zip(columns, widths, sides)
        ]
        rows.append(" | ".join(texts).rstrip(" "))
    return rows


def no_lead(number):
    return ""


def text_at(column, number):
    return column[number] if number < len(column) else ""


def padded(text, width, side):
    return text.rjust(width) if side == "right" else text.ljust(width)
