"""Point 1 and book.py: a book answers, behind every change, as one made anew of its text."""

import unittest

from lightmark.book import Book
from lightmark.errors import BadText, BadWidth, OutOfPlace
from lightmark.joins import Joined
from lightmark.reader import read
from lightmark.setter import set_rows
from lightmark.sheet import Sheet
from tests.draws import draw, drawn_rows
from tests.things import no_texts

TEXT = "= a [x](l)\n\nb[^n] c[^m]\n- d\n\n[l]: /t\n[l]: /u\n[^n]: e [^k]\n[^k]: f\n[^s]: g"


def answers(book):
    return (
        book.text(), book.tree(), book.spans(), book.clean(), book.plain(24), book.plain(60), book.numbered(), book.lacks(),
        book.twice(), book.spare())


class Books(unittest.TestCase):
    def test_answers(self):
        book = Book(TEXT)
        self.assertEqual(book.text(), TEXT)
        self.assertEqual(book.tree(), read(TEXT).told())
        self.assertEqual(book.spans(), [(0, 1), (2, 3), (3, 4), (5, 6), (6, 7), (7, 8), (8, 9), (9, 10)])
        self.assertEqual(book.clean(), "= a [x](l)\n\nb[^n] c[^m]\n\n- d\n\n[l]: /t\n\n[l]: /u\n\n[^n]: e [^k]\n\n[^k]: f\n\n[^s]: g")
        self.assertEqual(book.plain(24), [
            "a x (/t)", "========", "", "b[1] c[?]", "", "- d", "", "---", "[1] e [2]", "[2] f"])
        self.assertEqual(book.numbered(), ["n", "k"])
        self.assertEqual((book.lacks(), book.twice(), book.spare()), ([("note", "m")], [("link", "l")], [("note", "s")]))

    def test_no_blocks(self):
        self.assertEqual(answers(Book("")), ("", [], [], "", [], [], [], [], [], []))
        self.assertEqual(Book("\n \n").clean(), "")

    def test_as_the_others_answer(self):
        dice = draw("books")
        for _ in range(300):
            text = "\n".join(drawn_rows(dice))
            book, sheet, document = Book(text), Sheet(text), read(text)
            joins = Joined(document)
            self.assertEqual(answers(book), (
                sheet.text(), sheet.tree(), sheet.spans(), document.text(), set_rows(document, 24), set_rows(document, 60),
                joins.numbered(), joins.lacks(), joins.twice(), joins.spare()))

    def test_behind_several_changes(self):
        dice = draw("book changes")
        for _ in range(150):
            text = "\n".join(drawn_rows(dice))
            book, sheet = Book(text), Sheet(text)
            for _ in range(5):
                count = len(sheet.rows_told())
                first = dice.randint(0, count)
                behind = min(count, first + dice.randint(0, 3))
                rows = drawn_rows(dice, 3)
                book_seen, sheet_seen = [], []
                self.assertEqual(
                    book.change(first, behind, rows, book_seen.append), sheet.change(first, behind, rows, sheet_seen.append))
                self.assertEqual(book_seen, sheet_seen)
                self.assertEqual(answers(book), answers(Book(sheet.text())))

    def test_a_change_of_a_definition(self):
        book = Book(TEXT)
        self.assertEqual(book.change(5, 6, ["[m]: /v", "[^m]: h"]), (3, 2, 4))
        self.assertEqual((book.lacks(), book.twice(), book.spare()), ([], [], [("link", "m"), ("note", "s")]))
        self.assertEqual(book.numbered(), ["n", "m", "k"])
        self.assertEqual(book.plain(24)[0], "a x (/u)")

    def test_clean_stays_as_it_is(self):
        dice = draw("clean")
        for _ in range(500):
            book = Book("\n".join(drawn_rows(dice)))
            text = book.text()
            clean = book.clean()
            self.assertEqual(Book(clean).clean(), clean)
            self.assertEqual(Book(clean).tree(), book.tree())
            self.assertEqual(book.text(), text)

    def test_seen_asks_the_book(self):
        book = Book(TEXT)
        told = []
        book.change(2, 3, ["b"], seen=lambda number: told.append((number, answers(book))))
        self.assertEqual(told, [(2, answers(Book(book.text())))])

    def test_arguments_by_name(self):
        book = Book("a")
        self.assertEqual(book.change(first=0, behind=1, rows=["b"], seen=None), (0, 1, 0))
        self.assertEqual(book.plain(width=24), ["b"])


class Refusing(unittest.TestCase):
    def refuse(self, refusal, call):
        with self.assertRaises(refusal) as caught:
            call()
        self.assertIs(type(caught.exception), refusal)

    def test_texts(self):
        for thing in no_texts() + ["\t", "a\tb"]:
            self.refuse(BadText, lambda: Book(thing))

    def test_widths(self):
        for thing in no_texts() + [23, 121, "24"]:
            self.refuse(BadWidth, lambda: Book("a").plain(thing))

    def test_changes(self):
        book = Book(TEXT)
        before, seen = answers(book), []
        for refusal, first, behind, rows in [
            (OutOfPlace, 0, 11, ["a"]), (OutOfPlace, -1, 0, ["a"]), (OutOfPlace, 2, 1, ["a"]), (OutOfPlace, True, 1, ["a"]),
            (OutOfPlace, "0", 1, None), (BadText, 0, 1, ["a\n"]), (BadText, 0, 1, ["\t"]), (BadText, 0, 1, "a"), (BadText, 0, 1, [1]),
        ]:
            self.refuse(refusal, lambda: book.change(first, behind, rows, seen.append))
            self.assertEqual((answers(book), seen), (before, []))


class Own(unittest.TestCase):
    """Point 1: what is told is the asker's own, what is handed in is neither changed nor kept."""

    def test_told_lists_are_told_anew(self):
        book = Book(TEXT)
        asked = answers(book)
        for told in answers(book):
            if isinstance(told, list):
                told.append("x")
                told[0] = "y"
        book.tree()[0][2].clear()
        self.assertEqual(answers(book), asked)

    def test_what_was_told_stays_behind_a_change(self):
        book = Book(TEXT)
        kept, asked = answers(book), answers(Book(TEXT))
        book.change(0, 4, ["~~~"])
        self.assertEqual(kept, asked)

    def test_rows_handed_in_leave_no_trace(self):
        book = Book("a\n\nb")
        rows = ["c", "d"]
        book.change(0, 1, rows)
        asked = answers(book)
        self.assertEqual(rows, ["c", "d"])
        rows.clear()
        self.assertEqual(answers(book), asked)
