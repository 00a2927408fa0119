"""Point 1 and the interface over the whole program: its names, its arguments, its refusals."""

import importlib
import inspect
import pathlib
import re
import unittest

from lightmark.book import Book
from lightmark.errors import BadName, BadText, BadTree, BadWidth, MarkError, OutOfPlace
from lightmark.inline import need_parts
from lightmark.joins import Joined
from lightmark.made import made
from lightmark.reader import read
from lightmark.setter import set_rows
from lightmark.sheet import Sheet
from lightmark.signs import name_of, need_text
from tests.draws import draw, drawn_marked_text
from tests.things import no_texts

REFUSALS = [BadText, BadName, BadTree, OutOfPlace, BadWidth]

PART = ["told()", "raw()", "said(link, note)"]
BLOCK = ["told()", "written()", "texts()", "walk(worker)"]
HAND = ["text()", "tree()", "spans()", "change(first, behind, rows, seen=None)"]
JOINS = ["numbered()", "lacks()", "twice()", "spare()"]

INTERFACE = {
    "signs": ["need_text(thing)", "rows_of(text)", "joined(rows)", "is_name(thing)", "name_of(thing)", "words_of(text)",
              "tidy(text)", "split_cells(text)", "cell_text(text)", "is_rule(text)"],
    "sorts": ["sort_of(row)"],
    "parts": ["Plain(signs)", "Code(signs)", "Strong(parts)", "Link(words, name)", "Mark(name)", "told_parts(parts)",
              "raw_of(parts)", "said_of(parts, link, note)"],
    "inline": ["parts_of(text)", "need_parts(told)"],
    "fill": ["filled(words, width, lead)"],
    "columns": ["shares(wants, room)", "beside(cells, widths, sides)"],
    "blocks": ["Heading(level, parts)", "Para(parts)", "Literal(lines)", "Quote(blocks)", "Naming(name, target)",
               "Noting(name, parts)", "rows_between(blocks)"],
    "lists": ["Listing(entries)", "Entry(sign, parts, entries)"],
    "tables": ["Table(head, sides, lines)"],
    "reader": ["block_at(rows, place, deep)", "blocks_of(rows, deep)", "read(text)"],
    "document": ["Document(blocks)"],
    "made": ["made(told)"],
    "joins": ["Joined(document)"],
    "setter": ["set_rows(document, width)"],
    "sheet": ["Sheet(text)"],
    "book": ["Book(text)"],
}

METHODS = {
    "parts": dict.fromkeys(["Plain", "Code", "Strong", "Link", "Mark"], PART),
    "blocks": dict.fromkeys(["Heading", "Para", "Literal", "Quote", "Naming", "Noting"], BLOCK),
    "lists": {"Listing": BLOCK, "Entry": ["told()"]},
    "tables": {"Table": BLOCK},
    "document": {"Document": ["told()", "written()", "text()", "walk(worker)"]},
    "joins": {"Joined": ["goes(name)", "number(name)", "words_at(name)"] + JOINS},
    "sheet": {"Sheet": ["rows_told()"] + HAND},
    "book": {"Book": HAND + ["clean()", "plain(width)"] + JOINS},
}


def shown(name, thing, method=False):
    given = str(inspect.signature(thing))
    return name + (re.sub(r"^\(self(, )?", "(", given) if method else given)


class Interface(unittest.TestCase):
    def test_names_and_arguments(self):
        for module, promised in INTERFACE.items():
            held = importlib.import_module("lightmark." + module)
            for one in promised:
                name = one.partition("(")[0]
                self.assertEqual(shown(name, getattr(held, name)), one)
                self.assertEqual(getattr(held, name).__module__, "lightmark." + module)

    def test_methods_and_arguments(self):
        for module, classes in METHODS.items():
            for name, promised in classes.items():
                kind = getattr(importlib.import_module("lightmark." + module), name)
                for one in promised:
                    method = one.partition("(")[0]
                    self.assertEqual(shown(method, getattr(kind, method), True), one)

    def test_the_package_itself_binds_no_name(self):
        source = (pathlib.Path(__file__).resolve().parent.parent / "lightmark" / "__init__.py").read_text(encoding="utf-8")
        self.assertRegex(source, r'\A"""[^"]*"""\n\Z')


class Refusals(unittest.TestCase):
    def refuse(self, refusal, call, *given):
        with self.assertRaises(refusal) as caught:
            call(*given)
        error = caught.exception
        self.assertIs(type(error), refusal)
        self.assertIsInstance(error, MarkError)
        self.assertIsInstance(error, ValueError)
        self.assertEqual([isinstance(error, other) for other in REFUSALS], [other is refusal for other in REFUSALS])

    def test_each_refuses_things_of_every_kind_with_its_own_class(self):
        joins, sheet, book = Joined(read("[^a]: b")), Sheet("a\nb"), Book("a\nb")
        for number, one in enumerate(no_texts()):
            def thing():
                return no_texts()[number]
            empty = isinstance(one, list) and one == []
            for call in [need_text, read, Sheet, Book]:
                self.refuse(BadText, call, thing())
            for call in [name_of, joins.words_at]:
                self.refuse(BadName, call, thing())
            for call in [need_parts, made]:
                if not empty:
                    self.refuse(BadTree, call, thing())
            self.refuse(BadWidth, set_rows, read("a"), thing())
            self.refuse(BadWidth, book.plain, thing())
            for hand in [sheet, book]:
                if type(one) is not int:
                    self.refuse(OutOfPlace, hand.change, thing(), 2, [])
                    self.refuse(OutOfPlace, hand.change, 0, thing(), [])
                self.refuse(BadText, hand.change, 0, 1, [thing()])
                if not isinstance(one, list):
                    self.refuse(BadText, hand.change, 0, 1, thing())

    def test_texts_where_no_text_is_asked_for(self):
        for text in ["", "a", "24", "para", "0"]:
            self.refuse(BadTree, need_parts, text)
            self.refuse(BadTree, made, text)
            self.refuse(BadWidth, set_rows, read("a"), text)
            self.refuse(OutOfPlace, Sheet("a").change, text, 1, [])
            self.refuse(BadText, Sheet("a").change, 0, 1, text)

    def test_nothing_else_is_refused(self):
        dice = draw("whole")
        for _ in range(300):
            book = Book(drawn_marked_text(dice))
            for width in [24, 77, 120]:
                book.plain(width)
            self.assertEqual(made(book.tree()).text(), book.clean())


class Together(unittest.TestCase):
    """What lies within each other is told anew, too, whichever way it came in."""

    def spoil(self, thing):
        if isinstance(thing, (list, tuple)):
            for inner in list(thing):
                self.spoil(inner)
        if isinstance(thing, list):
            thing.clear()

    def test_nothing_that_is_told_leads_back(self):
        dice = draw("leads back")
        for _ in range(300):
            text = drawn_marked_text(dice)
            document, sheet, book = read(text), Sheet(text), Book(text)
            tree = document.told()
            other = made(document.told())
            joins = Joined(document)
            kept = [joins.words_at(name) for name in joins.numbered()]
            for told in [document.told(), document.written(), sheet.tree(), sheet.rows_told(), sheet.spans(), book.tree(),
                         book.plain(30), joins.numbered(), joins.lacks(), joins.twice(), joins.spare(), other.told()]:
                self.spoil(told)
            for name in joins.numbered():
                self.spoil(joins.words_at(name))
            document.walk(lambda block: [self.spoil(one) for one in (block.told(), block.written(), block.texts())])
            for told in [document.told(), sheet.tree(), book.tree(), other.told(), read(text).told()]:
                self.assertEqual(told, tree)
            self.assertEqual([joins.words_at(name) for name in joins.numbered()], kept)
            self.assertEqual((sheet.text(), book.text()), (text, text))
