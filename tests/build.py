"""Blocks built of what is told of them, straight by their classes and unasked."""

from lightmark.blocks import Heading, Literal, Naming, Noting, Para, Quote
from lightmark.inline import need_parts
from lightmark.lists import Entry, Listing
from lightmark.tables import Table


def entries(told):
    return [Entry(sign, need_parts(parts), entries(inner)) for sign, parts, inner in told]


def cells(told):
    return [need_parts(cell) for cell in told]


def block(told):
    sort, *rest = told
    if sort == "heading":
        return Heading(rest[0], need_parts(rest[1]))
    if sort == "para":
        return Para(need_parts(rest[0]))
    if sort == "list":
        return Listing(entries(rest[0]))
    if sort == "table":
        return Table(cells(rest[0]), rest[1], [cells(line) for line in rest[2]])
    if sort == "literal":
        return Literal(rest[0])
    if sort == "quote":
        return Quote(blocks(rest[0]))
    if sort == "name":
        return Naming(rest[0], rest[1])
    return Noting(rest[0], need_parts(rest[1]))


def blocks(told):
    return [block(one) for one in told]
