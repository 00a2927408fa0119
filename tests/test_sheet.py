"""Points 1, 19 and 20 and sheet.py: rows changed by a hand."""

import unittest

from lightmark.errors import BadText, OutOfPlace
from lightmark.reader import blocks_of, read
from lightmark.sheet import Sheet
from tests.draws import draw, drawn_rows
from tests.things import no_texts


def para(words):
    return ("para", [("plain", words)])


def answers(sheet):
    return (sheet.rows_told(), sheet.text(), sheet.tree(), sheet.spans())


def places_come_to(rows, begin):
    """Where reading comes to from begin on: each place that no block read from there has behind its first row."""
    within = [place for _, first, behind in blocks_of(rows[begin:], 0) for place in range(first + 1, behind)]
    return [begin + place for place in range(len(rows) - begin + 1) if place not in within]


def asked_of_a_change(rows, first, behind, put):
    """Point 20 by its words: the new rows, begin, p, and the triple."""
    spans = [triple[1:] for triple in blocks_of(rows, 0)]
    put = [""] if not put and behind - first == len(rows) else put
    new = rows[:first] + put + rows[behind:]
    ending = [span for span in spans if span[1] >= first]
    begin = ending[0][0] if ending and ending[0][0] < first else first

    def between(place):
        return place in (0, len(rows)) or not any(one < place < other for one, other in spans)
    grew = len(new) - len(rows)
    p = min(place for place in places_come_to(new, begin)
            if place >= first + len(put) and (place == len(new) or between(place - grew)))
    anew = [span for span in [triple[1:] for triple in blocks_of(new, 0)] if begin <= span[0] < p]
    ahead = [span for span in spans if span[0] < begin]
    stay = [span for span in spans if span[0] >= p - grew]
    return new, begin, p, (len(ahead), len(anew), len(stay))


class SheetCase(unittest.TestCase):
    def check(self, sheet, first, behind, put, triple=None, read_again=None):
        """A change, held against the words of point 20 and against the text read anew."""
        rows = sheet.rows_told()
        new, begin, p, asked = asked_of_a_change(rows, first, behind, put)
        seen = []
        told = sheet.change(first, behind, put, seen.append)
        self.assertEqual(told, asked, (rows, first, behind, put))
        self.assertIsInstance(told, tuple)
        self.assertEqual(seen, list(range(begin, p)), (rows, first, behind, put))
        self.assertEqual(answers(sheet), answers(Sheet("\n".join(new))), (rows, first, behind, put))
        if triple is not None:
            self.assertEqual((told, seen), (triple, read_again))


class Sheets(SheetCase):
    def test_answers(self):
        sheet = Sheet("= a\n\nb\nc\n- d")
        self.assertEqual(sheet.rows_told(), ["= a", "", "b", "c", "- d"])
        self.assertEqual(sheet.text(), "= a\n\nb\nc\n- d")
        self.assertEqual(sheet.tree(), [
            ("heading", 1, [("plain", "a")]), para("b c"), ("list", [("-", [("plain", "d")], [])])])
        self.assertEqual(sheet.spans(), [(0, 1), (2, 4), (4, 5)])
        self.assertTrue(all(isinstance(span, tuple) for span in sheet.spans()))

    def test_no_blocks(self):
        for text in ["", "\n\n", "  \n "]:
            sheet = Sheet(text)
            self.assertEqual((sheet.text(), sheet.tree(), sheet.spans()), (text, [], []))
            self.assertEqual(sheet.rows_told(), text.split("\n"))

    def test_as_a_text_is_read(self):
        dice = draw("sheets")
        for _ in range(500):
            rows = drawn_rows(dice) or [""]
            sheet = Sheet("\n".join(rows))
            self.assertEqual(sheet.tree(), read("\n".join(rows)).told())
            self.assertEqual(sheet.spans(), [triple[1:] for triple in blocks_of(rows, 0)])

    def test_refuses_what_is_no_text(self):
        for thing in no_texts() + ["\t", "a\n\tb"]:
            with self.assertRaises(BadText) as caught:
                Sheet(thing)
            self.assertIs(type(caught.exception), BadText)


class Changes(SheetCase):
    def test_the_first_and_the_last_row(self):
        text = "a\n\nb\n\nc"
        self.check(Sheet(text), 0, 1, ["x"], (0, 1, 2), [0])
        self.check(Sheet(text), 4, 5, ["x"], (2, 1, 0), [4])
        self.check(Sheet(text), 0, 0, ["x"], (0, 1, 2), [0, 1])
        self.check(Sheet(text), 5, 5, ["x"], (2, 1, 0), [4, 5])
        self.check(Sheet(text), 0, 0, ["x", ""], (0, 1, 3), [0, 1])
        self.check(Sheet(text), 5, 5, ["", "x"], (2, 2, 0), [4, 5, 6])
        self.check(Sheet(text), 0, 1, [], (0, 0, 2), [])
        self.check(Sheet(text), 4, 5, [], (2, 0, 0), [])

    def test_of_no_rows_by_no_rows(self):
        text = "a\n\nb\nc\n\nd"
        self.check(Sheet(text), 0, 0, [], (0, 0, 3), [])
        self.check(Sheet(text), 1, 1, [], (0, 1, 2), [0])
        self.check(Sheet(text), 2, 2, [], (1, 0, 2), [])
        self.check(Sheet(text), 3, 3, [], (1, 1, 1), [2, 3])
        self.check(Sheet(text), 6, 6, [], (2, 1, 0), [5])
        self.check(Sheet(""), 0, 0, [], (0, 0, 0), [])
        self.check(Sheet(""), 1, 1, [], (0, 0, 0), [])

    def test_all_rows(self):
        for text in ["", "a", "a\n\nb", "~~~\na"]:
            count = text.count("\n") + 1
            self.check(Sheet(text), 0, count, ["x", "", "y"], (0, 2, 0), [0, 1, 2])
            self.check(Sheet(text), 0, count, ["", ""], (0, 0, 0), [0, 1])
            sheet = Sheet(text)
            self.check(sheet, 0, count, [], (0, 0, 0), [0])
            self.assertEqual(answers(sheet), ([""], "", [], []))

    def test_blocks_that_grow_together_and_apart(self):
        self.check(Sheet("a\n\nb\n\nc"), 1, 2, [], (0, 1, 1), [0, 1])
        self.check(Sheet("a\n\nb\n\nc"), 1, 2, ["x"], (0, 1, 1), [0, 1, 2])
        self.check(Sheet("a\nb\n\nc"), 1, 1, [""], (0, 2, 1), [0, 1, 2])
        self.check(Sheet("- a\n\n  b"), 1, 2, [], (0, 1, 0), [0, 1])
        self.check(Sheet("|a|\n|b|\n\nc"), 1, 1, ["|-|"], (0, 1, 1), [0, 1, 2])

    def test_an_empty_row_away_from_blocks(self):
        self.check(Sheet("a\n\n\n\nb"), 2, 2, [""], (1, 0, 1), [2])
        self.check(Sheet("a\n\n\n\nb"), 2, 3, [], (1, 0, 1), [])
        self.check(Sheet("a\n\n\n\nb"), 2, 3, ["x"], (1, 1, 1), [2])
        self.check(Sheet("a\n\n\n\nb"), 1, 2, [""], (0, 1, 1), [0, 1])

    def test_a_fence_put_in_and_taken_out(self):
        self.check(Sheet("a\n\nb\n\nc\n\nd"), 2, 2, ["~~~"], (1, 1, 0), [2, 3, 4, 5, 6, 7])
        self.check(Sheet("a\n\n~~~\nb\n\nc\n~~~\n\nd"), 2, 3, [], (1, 3, 0), [2, 3, 4, 5, 6, 7])
        self.check(Sheet("a\n\n~~~\nb\n\nc\n~~~\n\nd"), 6, 7, [], (1, 1, 0), [2, 3, 4, 5, 6, 7])
        self.check(Sheet("~~~\na\n~~~\nb\n~~~\nc\n~~~\nd\n"), 0, 0, ["~~~"])
        self.check(Sheet("~~~\na\n~~~\n\nb\n\nc"), 4, 4, ["~~~", "x", "~~~"], (1, 1, 2), [4, 5, 6])

    def test_only_what_must_be_is_read_again(self):
        text = "\n\n".join(["a"] * 1000)
        self.check(Sheet(text), 1000, 1001, ["b"], (500, 1, 499), [1000])
        self.check(Sheet(text), 1000, 1001, ["b", "c"], (500, 1, 499), [1000, 1001])
        self.check(Sheet(text), 1000, 1001, [], (500, 0, 499), [])

    def test_several_changes_of_one_sheet(self):
        sheet = Sheet("")
        self.check(sheet, 0, 1, ["= a", "b", "", "- c"])
        self.check(sheet, 4, 4, ["  d", "", "> e", "> f"])
        self.check(sheet, 2, 2, ["~~~"])
        self.check(sheet, 5, 5, ["~~~"])
        self.check(sheet, 2, 3, [])
        self.check(sheet, 0, 8, [])
        self.check(sheet, 0, 0, ["x"])

    def test_without_seen(self):
        sheet = Sheet("a\n\nb")
        self.assertEqual(sheet.change(0, 1, ["c"]), (0, 1, 1))
        self.assertEqual(sheet.change(0, 1, ["d"], None), (0, 1, 1))
        self.assertEqual(sheet.change(first=0, behind=1, rows=["e"], seen=None), (0, 1, 1))
        self.assertEqual(sheet.text(), "e\n\nb")

    def test_every_change_of_short_texts(self):
        for rows in [["a", "", "b"], ["- a", "  b", "", "- c"], ["~~~", "a", "~~~", "b"], ["", "> a", "> b", ""], ["[^a]: b", " c", "d"]]:
            for first in range(len(rows) + 1):
                for behind in range(first, len(rows) + 1):
                    for put in [[], [""], ["x"], ["~~~"], [" y"], ["", "- z"], ["> q", ""], ["~~~", "~~~"]]:
                        self.check(Sheet("\n".join(rows)), first, behind, put)

    def test_drawn_changes(self):
        dice = draw("changes")
        for _ in range(600):
            sheet = Sheet("\n".join(drawn_rows(dice, 20)))
            for _ in range(8):
                count = len(sheet.rows_told())
                first = dice.randint(0, count)
                behind = min(count, first + dice.choice([0, 0, 1, 1, 2, 5, 30]))
                self.check(sheet, first, behind, drawn_rows(dice, dice.choice([0, 1, 1, 2, 4])))


class Seen(SheetCase):
    def test_seen_asks_the_sheet(self):
        sheet = Sheet("a\n\nb\nc")
        told = []
        sheet.change(2, 3, ["x", "y"], lambda number: told.append((number, answers(sheet))))
        asked = answers(Sheet("a\n\nx\ny\nc"))
        self.assertEqual(told, [(2, asked), (3, asked), (4, asked)])

    def test_seen_changes_what_it_is_told(self):
        sheet = Sheet("a\nb")

        def seen(number):
            for one in answers(sheet):
                if isinstance(one, list):
                    one.clear()
        self.assertEqual(sheet.change(1, 2, ["c"], seen), (0, 1, 0))
        self.assertEqual(answers(sheet), answers(Sheet("a\nc")))

    def test_seen_changes_the_sheet(self):
        sheet = Sheet("a\n\nb")
        numbers = []

        def seen(number):
            numbers.append(number)
            sheet.change(len(sheet.rows_told()), len(sheet.rows_told()), ["", "x"])
        self.assertEqual(sheet.change(2, 3, ["c", "d"], seen), (1, 1, 0))
        self.assertEqual(numbers, [2, 3])
        self.assertEqual(answers(sheet), answers(Sheet("a\n\nc\nd\n\nx\n\nx")))

    def test_what_seen_gives_is_not_looked_at(self):
        for given in [True, False, None, 0]:
            numbers = []
            Sheet("a\nb").change(0, 1, ["c"], lambda number: (numbers.append(number), given)[1])
            self.assertEqual(numbers, [0, 1])

    def test_numbers_are_whole_numbers(self):
        numbers = []
        Sheet("a\nb").change(0, 1, ["c"], numbers.append)
        self.assertTrue(all(type(number) is int for number in numbers))


class Refusing(unittest.TestCase):
    def setUp(self):
        self.sheet = Sheet("a\n\nb\nc")
        self.before = answers(self.sheet)

    def refuse(self, refusal, first, behind, rows):
        seen = []
        with self.assertRaises(refusal) as caught:
            self.sheet.change(first, behind, rows, seen.append)
        self.assertIs(type(caught.exception), refusal)
        self.assertEqual(seen, [])
        self.assertEqual(answers(self.sheet), self.before)

    def test_places(self):
        for first, behind in [(-1, 0), (-1, -1), (0, -1), (1, 0), (4, 3), (0, 5), (5, 5), (4, 5), (10 ** 20, 10 ** 20), (-10 ** 20, 0)]:
            self.refuse(OutOfPlace, first, behind, ["x"])
        for first, behind in [(0, 4), (4, 4), (0, 0)]:
            self.assertEqual(len(Sheet("a\n\nb\nc").change(first, behind, ["x"])), 3)

    def test_places_of_other_kinds(self):
        for thing in [True, False, None, "0", "", 0.0, 1.5, [0], (0,), {0: 0}]:
            self.refuse(OutOfPlace, thing, 1, ["x"])
            self.refuse(OutOfPlace, 0, thing, ["x"])
            self.refuse(OutOfPlace, thing, thing, ["x"])
        for thing in no_texts():
            if type(thing) is not int:
                self.refuse(OutOfPlace, thing, 4, ["x"])
                self.refuse(OutOfPlace, 0, thing, ["x"])

    def test_rows(self):
        for rows in [["\n"], ["a\nb"], ["a\n"], ["\t"], ["a\tb"], ["a", "b\n"], ["a", "\t", "b"], ["a", None], [1], [True], [["a"]], [("a",)]]:
            self.refuse(BadText, 0, 1, rows)
        for rows in ["a", "", ("a",), (), None, 0, True, {}, {"a": "b"}, {"a"}, iter(["a"]), range(0)]:
            self.refuse(BadText, 0, 1, rows)
        for thing in no_texts():
            self.refuse(BadText, 0, 1, ["a", thing])
            if not isinstance(thing, list):
                self.refuse(BadText, 0, 1, thing)

    def test_places_ahead_of_rows(self):
        for rows in [None, "a", ["\t"], ["\n"], [None], ()]:
            self.refuse(OutOfPlace, 0, 5, rows)
            self.refuse(OutOfPlace, True, 1, rows)
            self.refuse(BadText, 0, 4, rows)

    def test_all_is_as_before_behind_a_refusal(self):
        self.refuse(OutOfPlace, 3, 2, ["x"])
        self.refuse(BadText, 2, 3, ["x", 1])
        self.assertEqual(self.sheet.change(2, 3, ["x"]), (1, 1, 0))
        self.assertEqual(self.sheet.text(), "a\n\nx\nc")


class Own(unittest.TestCase):
    """Point 1: what is told is the asker's own, what is handed in is neither changed nor kept."""

    def test_told_lists_are_told_anew(self):
        sheet = Sheet("> ~~~\n> a\n\n| b |")
        asked = answers(Sheet("> ~~~\n> a\n\n| b |"))
        sheet.tree()[0][1][0][1].clear()
        sheet.tree()[1][3][0].clear()
        for told in [sheet.rows_told(), sheet.tree(), sheet.spans()]:
            told.append("x")
            told[0] = "y"
            self.assertEqual(answers(sheet), asked)
        for told in [sheet.rows_told(), sheet.tree(), sheet.spans()]:
            told.clear()
        self.assertEqual(answers(sheet), asked)

    def test_what_was_told_stays_behind_a_change(self):
        sheet = Sheet("a\n\nb\n\nc")
        kept = answers(sheet)
        asked = answers(Sheet("a\n\nb\n\nc"))
        sheet.change(0, 3, ["~~~", "x"])
        sheet.change(0, 0, ["y"])
        self.assertEqual(kept, asked)

    def test_rows_handed_in_are_neither_changed_nor_kept(self):
        for rows in [["x", "y"], [], ["~~~", "z"]]:
            sheet = Sheet("a\n\nb")
            given = list(rows)
            sheet.change(0, 1, given)
            self.assertEqual(given, rows)
            asked = answers(sheet)
            given.append("~~~")
            given[0] = "q"
            self.assertEqual(answers(sheet), asked)
        given = []
        sheet = Sheet("a")
        sheet.change(0, 1, given)
        self.assertEqual(given, [])
        given.append("b")
        self.assertEqual(sheet.rows_told(), [""])

    def test_many_changes_of_a_long_text(self):
        sheet = Sheet("\n".join(["a", ""] * 60_000))
        for number in range(200):
            place = (number * 7919) % 120_000
            self.assertEqual(len(sheet.change(place, place + 1, ["b", "", "c"])), 3)
        self.assertEqual(len(sheet.rows_told()), 120_000 + 200 * 2)
        self.assertTrue(sheet.spans() == Sheet(sheet.text()).spans())
