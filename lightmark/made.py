"""Making: the document of a tree, if the tree is one."""

from lightmark.blocks import MOST_QUOTES, Heading, Literal, Naming, Noting, Para, Quote
from lightmark.document import Document
from lightmark.errors import BadTree
from lightmark.inline import need_parts, need_small_name
from lightmark.lists import MOST_ENTRIES, Entry, Listing
from lightmark.sorts import DEEPEST_HEADING, FENCE
from lightmark.tables import Table


def made(told):
    return Document(need_blocks(told, 0))


def need_list(thing):
    # Neither here nor below is the refused thing shown: it could fail at that.
    if not isinstance(thing, list):
        raise BadTree("a list is asked for")
    return thing


def need_blocks(told, around):
    return [need_block(tree, around) for tree in need_list(told)]


def need_block(tree, around):
    if not isinstance(tree, tuple) or tree == () or not isinstance(tree[0], str):
        raise BadTree("a block is told as a tuple that its sort begins")
    shape = (tree[0], len(tree))
    if shape == ("heading", 3):
        return Heading(need_level(tree[1]), need_words(tree[2]))
    if shape == ("para", 2):
        return Para(need_words(tree[1]))
    if shape == ("list", 2):
        return need_listing(tree[1])
    if shape == ("table", 4):
        return need_table(tree[1], tree[2], tree[3])
    if shape == ("literal", 2):
        return Literal([need_line(line) for line in need_list(tree[1])])
    if shape == ("quote", 2):
        return need_quote(tree[1], around)
    if shape == ("name", 3):
        return Naming(need_small_name(tree[1]), need_target(tree[2]))
    if shape == ("note", 3):
        return Noting(need_small_name(tree[1]), need_words(tree[2]))
    raise BadTree("there is no such block")


def need_level(thing):
    if not isinstance(thing, int) or isinstance(thing, bool):
        raise BadTree("a level is a whole number")
    if thing < 1 or thing > DEEPEST_HEADING:
        raise BadTree("a level is 1, 2 or 3")
    return thing


def need_words(told):
    parts = need_parts(told)
    if parts == []:
        raise BadTree("there are no parts")
    return parts


def need_listing(told):
    if need_list(told) == []:
        raise BadTree("a list has no entries")
    return Listing(need_entries(told, 0))


def need_entries(told, around):
    return [need_entry(thing, around) for thing in need_list(told)]


def need_entry(thing, around):
    if not isinstance(thing, tuple) or len(thing) != 3:
        raise BadTree("an entry is told as its sign, its parts and its own entries")
    if around >= MOST_ENTRIES:
        raise BadTree("more than six entries lie within each other")
    if not isinstance(thing[0], str) or thing[0] not in ("-", "+"):
        raise BadTree("the sign of an entry is - or +")
    return Entry(thing[0], need_words(thing[1]), need_entries(thing[2], around + 1))


def need_table(head, sides, lines):
    cells = need_cells(head)
    rows = [need_cells(line) for line in need_list(lines)]
    columns = columns_of(cells, rows)
    if any([len(row) != columns for row in rows]):
        raise BadTree("the lines of a table have not as many cells")
    if len(need_list(sides)) != len(cells):
        raise BadTree("a table has not as many sides as its head has cells")
    return Table(cells, [need_side(side) for side in sides], rows)


def need_cells(told):
    return [need_parts(cell) for cell in need_list(told)]


def columns_of(cells, rows):
    if cells == [] and rows == []:
        raise BadTree("a table has neither a head nor a line")
    columns = len(rows[0]) if cells == [] else len(cells)
    if columns == 0:
        raise BadTree("a table has no cells")
    return columns


def need_side(thing):
    if not isinstance(thing, str) or thing not in ("left", "right"):
        raise BadTree("a side is left or right")
    return thing


def need_line(thing):
    if not isinstance(thing, str) or "\n" in thing or "\t" in thing:
        raise BadTree("a literal line is a text without line end and tab")
    if thing.rstrip(" ") == FENCE:
        raise BadTree("a literal line would end its block")
    return thing


def need_quote(told, around):
    if around >= MOST_QUOTES:
        raise BadTree("more than four quotes lie within each other")
    return Quote(need_blocks(told, around + 1))


def need_target(thing):
    if not isinstance(thing, str) or thing == "":
        raise BadTree("a target is a text that is not empty")
    if " " in thing or "\n" in thing or "\t" in thing:
        raise BadTree("a target is one word, without line end and tab")
    return thing
