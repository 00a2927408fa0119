"""Setting: a document as plain rows of a width."""

from lightmark.blocks import Heading, Literal, Para, Quote, quoted
from lightmark.columns import beside, no_lead, shares
from lightmark.errors import BadWidth
from lightmark.fill import filled
from lightmark.joins import Joined
from lightmark.lists import Listing
from lightmark.parts import said_of
from lightmark.signs import words_of
from lightmark.tables import Table

LEAST_WIDTH = 24
MOST_WIDTH = 120
LITERAL_LEAD = "    "
GAP = 3


def set_rows(document, width):
    need_width(width)
    joins = Joined(document)

    def link(name):
        target = joins.goes(name)
        return "?" if target is None else target

    def note(name):
        number = joins.number(name)
        return "?" if number is None else str(number)

    def say(parts):
        return words_of(said_of(parts, link, note))

    rows = several_rows(document.blocks, width, say)
    notes = notes_rows(joins, width, say)
    if rows != [] and notes != []:
        rows.append("")
    return rows + notes


def need_width(thing):
    if not isinstance(thing, int) or isinstance(thing, bool):
        raise BadWidth("a width is a whole number")
    if thing < LEAST_WIDTH or thing > MOST_WIDTH:
        raise BadWidth("a width is a number from 24 to 120")


def several_rows(blocks, width, say):
    rows = []
    for block in blocks:
        more = block_rows(block, width, say)
        if rows != [] and more != []:
            rows.append("")
        rows.extend(more)
    return rows


def block_rows(block, width, say):
    if isinstance(block, Heading):
        return heading_rows(block, width, say)
    if isinstance(block, Para):
        return filled(say(block.parts), width, no_lead)
    if isinstance(block, Listing):
        return entries_rows(block.entries, "", width, say)
    if isinstance(block, Table):
        return table_rows(block, width, say)
    if isinstance(block, Literal):
        return literal_rows(block.lines, width)
    if isinstance(block, Quote):
        return [quoted(row) for row in several_rows(block.blocks, width - 2, say)]
    return []


def heading_rows(heading, width, say):
    rows = filled(say(heading.parts), width, no_lead)
    longest = max([len(row) for row in rows], default=0)
    if heading.level == 1:
        rows.append("=" * longest)
    if heading.level == 2:
        rows.append("-" * longest)
    return rows


def hanging(first):
    further = " " * len(first)
    return lambda number: first if number == 0 else further


def entries_rows(entries, ahead, width, say):
    rows = []
    count = 0
    for entry in entries:
        count = count + 1 if entry.sign == "+" else 0
        first = ahead + (str(count) + ". " if entry.sign == "+" else "- ")
        rows.extend(filled(say(entry.parts), width, hanging(first)))
        rows.extend(entries_rows(entry.entries, ahead + "  ", width, say))
    return rows


def table_rows(table, width, say):
    head = said_cells(table.head, say)
    lines = [said_cells(line, say) for line in table.lines]
    every = lines if head == [] else [head] + lines
    columns = max([len(cells) for cells in every], default=0)
    if (GAP + 1) * columns - GAP > width:
        return cell_by_cell(every, width)
    room = width - GAP * (columns - 1)
    widths = shares([wanted(every, number) for number in range(columns)], room)
    sides = ["left"] * columns if head == [] else table.sides
    rows = []
    if head != []:
        rows.extend(beside(head, widths, sides))
        rows.append("-+-".join(["-" * wide for wide in widths]))
    for line in lines:
        rows.extend(beside(line, widths, sides))
    return rows


def said_cells(cells, say):
    return [say(cell) for cell in cells]


def wanted(lines, number):
    return max([1] + [len(" ".join(line[number])) for line in lines])


def cell_by_cell(lines, width):
    rows = []
    for line in lines:
        for words in line:
            rows.extend(filled(words, width, hanging("- ")))
    return rows


def literal_rows(lines, width):
    # Without a room no line would ever come to its end.
    room = max(1, width - len(LITERAL_LEAD))
    rows = []
    for line in lines:
        # An empty line has a row, too.
        for begin in range(0, max(1, len(line)), room):
            piece = line[begin:begin + room]
            rows.append((LITERAL_LEAD + piece).rstrip(" "))
    return rows


def notes_rows(joins, width, say):
    names = joins.numbered()
    rows = [] if names == [] else ["---"]
    for number, name in enumerate(names, start=1):
        first = "[" + str(number) + "] "
        rows.extend(filled(say(joins.parts_at(name)), width, hanging(first)))
    return rows
