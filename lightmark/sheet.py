"""A sheet: a text whose rows a hand changes, and of which only what must be is read again."""

from lightmark.document import Document
from lightmark.errors import BadText, OutOfPlace
from lightmark.reader import block_at, blocks_of, is_empty
from lightmark.signs import joined, need_text, rows_of


class Sheet:
    def __init__(self, text):
        self.rows = rows_of(need_text(text))
        self.triples = blocks_of(self.rows, 0)

    def rows_told(self):
        return list(self.rows)

    def text(self):
        return joined(self.rows)

    def document(self):
        return Document([triple[0] for triple in self.triples])

    def tree(self):
        return self.document().told()

    def spans(self):
        return [(triple[1], triple[2]) for triple in self.triples]

    def change(self, first, behind, rows, seen=None):
        need_places(first, behind, len(self.rows))
        put = need_rows(rows)
        if put == [] and behind - first == len(self.rows):
            put = [""]
        changed = self.rows[:first] + put + self.rows[behind:]
        grown = len(changed) - len(self.rows)
        ahead = count_ahead(self.triples, first)
        others = self.triples[ahead:]
        begin = begin_of(others, first)
        found = read_again(changed, begin, first + len(put), others, grown)
        staying = others[found[2]:]
        self.triples = self.triples[:ahead] + found[0] + moved(staying, grown)
        self.rows = changed
        if seen is not None:
            for number in range(begin, found[1]):
                seen(number)
        return (ahead, len(found[0]), len(staying))


def need_places(first, behind, count):
    if not is_number(first) or not is_number(behind):
        raise OutOfPlace("a place is a whole number")
    if first < 0 or behind < first or count < behind:
        raise OutOfPlace("there are no such places in the text")


def is_number(thing):
    return isinstance(thing, int) and not isinstance(thing, bool)


def need_rows(things):
    if not isinstance(things, list):
        raise BadText("rows are told as a list")
    return [need_row(thing) for thing in things]


def need_row(thing):
    row = need_text(thing)
    if "\n" in row:
        raise BadText("a line end stands in a row")
    return row


def count_ahead(triples, place):
    # How many blocks end ahead of the place, found by halving.
    low = 0
    high = len(triples)
    while low < high:
        middle = (low + high) // 2
        if triples[middle][2] < place:
            low = middle + 1
        else:
            high = middle
    return low


def begin_of(others, first):
    return first if others == [] else min(first, others[0][1])


def read_again(rows, begin, bound, others, grown):
    # Tells the blocks read anew, the place behind them, and how many of the
    # other blocks end at that place or ahead of it.
    anew = []
    place = begin
    passed = pass_by(others, 0, place - grown)
    while place < bound or is_inside(others, passed, place - grown):
        if is_empty(rows[place]):
            place += 1
        else:
            found = block_at(rows, place, 0)
            anew.append((found[0], place, found[1]))
            place = found[1]
        passed = pass_by(others, passed, place - grown)
    return (anew, place, passed)


def pass_by(others, passed, place):
    while passed < len(others) and others[passed][2] <= place:
        passed += 1
    return passed


def is_inside(others, passed, place):
    # Of the blocks that end behind the place only the first can begin ahead of it.
    return passed < len(others) and others[passed][1] < place


def moved(triples, grown):
    return [(triple[0], triple[1] + grown, triple[2] + grown) for triple in triples]
