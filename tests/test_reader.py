"""Points 1, 14 and 15 and reader.py: blocks read from rows."""

import unittest

from lightmark.blocks import Block, Heading, Literal, Naming, Noting, Para, Quote
from lightmark.document import Document
from lightmark.errors import BadText
from lightmark.lists import Listing
from lightmark.made import made
from lightmark.reader import block_at, blocks_of, read
from lightmark.signs import rows_of
from lightmark.tables import Table
from tests import second
from tests.draws import draw, drawn_marked_text, drawn_rows, drawn_text, drawn_tree
from tests.things import no_texts

LONGEST = 200_000


def plain(words):
    return [("plain", words)]


def para(words):
    return ("para", plain(words))


def entry(words, *within, sign="-"):
    return (sign, plain(words), list(within))


def tree(*rows):
    return read("\n".join(rows)).told()


class Watched(list):
    """Rows of which none behind a bound may be looked at, in whatever way."""

    bound = 0

    def __getitem__(self, place):
        if not isinstance(place, int) or not 0 <= place <= self.bound:
            raise AssertionError(f"row {place} is looked at")
        return list.__getitem__(self, place)

    def __iter__(self):
        raise AssertionError("all rows are looked at")

    __contains__ = __reversed__ = __add__ = __radd__ = __mul__ = __eq__ = copy = count = index = __iter__


class BlockCase(unittest.TestCase):
    def check(self, rows, told, length, deep=0):
        """The block of these rows, alone, in the midst of others, and where only the row that ends it may be seen."""
        with self.subTest(rows=rows):
            block, behind = block_at(rows, 0, deep)
            self.assertEqual((block.told(), behind), (told, length))
            self.assertIsInstance(block, Block)
            midst = ["x", "", "= y"] + rows
            answer = block_at(midst, 3, deep)
            self.assertIsInstance(answer, tuple)
            self.assertEqual((answer[0].told(), answer[1]), (told, 3 + length))
            self.assertEqual(midst, ["x", "", "= y"] + rows)
            one_row = told[0] in ("heading", "name")
            closed = told[0] == "literal" and length == len(told[1]) + 2
            watched = Watched(rows + ["z"] * 3)
            if length < len(rows) or one_row or closed:
                watched.bound = length - 1 if one_row or closed else length
                block, behind = block_at(watched, 0, deep)
                self.assertEqual((block.told(), behind), (told, length))


class OneRow(BlockCase):
    def test_headings(self):
        self.check(["= a"], ("heading", 1, plain("a")), 1)
        self.check(["==  a   b  "], ("heading", 2, plain("a b")), 1)
        self.check(["=== *a*", "b"], ("heading", 3, [("strong", plain("a"))]), 1)
        self.check(["= a", "  b"], ("heading", 1, plain("a")), 1)
        self.check(["= a", "= b"], ("heading", 1, plain("a")), 1)

    def test_names(self):
        self.check(["[a]: b"], ("name", "a", "b"), 1)
        self.check(["[A1]: *B*  ", "  c"], ("name", "a1", "*B*"), 1)
        self.check(["[a]: b", "[c]: d"], ("name", "a", "b"), 1)


class Notes(BlockCase):
    def test_one_row(self):
        self.check(["[^a]: b"], ("note", "a", plain("b")), 1)
        self.check(["[^A]:  b   c "], ("note", "a", plain("b c")), 1)
        self.check(["[^a]: *b* [^C]"], ("note", "a", [("strong", plain("b")), ("plain", " "), ("note", "c")]), 1)

    def test_rows_that_go_on(self):
        self.check(["[^a]: b", " c"], ("note", "a", plain("b c")), 2)
        self.check(["[^a]: b", "    c  d  ", " e", "f"], ("note", "a", plain("b c d e")), 3)
        self.check(["[^a]: *b", " c*"], ("note", "a", [("strong", plain("b c"))]), 2)
        self.check(["[^a]: b", " = c", "  > d", "  [e]: f", " |g|", " ~~~", ""],
                   ("note", "a", [("plain", "b = c > d [e]: f |g| ~~~")]), 6)

    def test_rows_that_do_not(self):
        for row in ["c", "", "  ", "- c", " - c", "  + c", "= c", "> c", "| c |", "~~~", "[c]: d", "[^c]: d", ">"]:
            self.check(["[^a]: b", row, " e"], ("note", "a", plain("b")), 1)
            self.check(["[^a]: b", " c", row, " e"], ("note", "a", plain("b c")), 2)


class Fences(BlockCase):
    def test_with_another_one(self):
        self.check(["~~~", "~~~"], ("literal", []), 2)
        self.check(["~~~", "a", "~~~", "b"], ("literal", ["a"]), 3)
        self.check(["~~~  ", "", "  a  ", "~~~ ", "~~~"], ("literal", ["", "  a  "]), 4)
        self.check(["~~~", "> a", "= b", "- c", "| d |", "[e]: f", " ~~~", "~~~~", "~~~ a", "~~~", "~~~"],
                   ("literal", ["> a", "= b", "- c", "| d |", "[e]: f", " ~~~", "~~~~", "~~~ a"]), 10)

    def test_without_another_one(self):
        self.check(["~~~"], ("literal", []), 1)
        self.check(["~~~", ""], ("literal", [""]), 2)
        self.check(["~~~", "a", "", " ", "= b"], ("literal", ["a", "", " ", "= b"]), 5)

    def test_four_deep(self):
        self.check(["~~~", "> a", "~~~"], ("literal", ["> a"]), 3, deep=4)


class Quotes(BlockCase):
    def test_quotes(self):
        self.check([">"], ("quote", []), 1)
        self.check(["> ", ">", ">  "], ("quote", []), 3)
        self.check(["> a"], ("quote", [para("a")]), 1)
        self.check(["> a", ">b", ">  c", "d"], ("quote", [para("a b c")]), 3)
        self.check(["> a", ">", "> b"], ("quote", [para("a"), para("b")]), 3)
        self.check(["> = a", "> - b", ">   - c", ">    d", ""],
                   ("quote", [("heading", 1, plain("a")), ("list", [entry("b", entry("c d"))])]), 4)
        self.check(["> [a]: b", "> [^c]: d", ">  e"], ("quote", [("name", "a", "b"), ("note", "c", plain("d e"))]), 3)

    def test_rows_that_end_them(self):
        for row in ["", " ", "a", " > a", "- a", "= a", "| a |", "~~~", "[a]: b", "\\> a"]:
            self.check(["> a", row, "> b"], ("quote", [para("a")]), 1)

    def test_rests_are_rows_as_they_stand(self):
        self.check(["> ~~~", ">", ">  ", ">   a  ", "> ~~~"], ("quote", [("literal", ["", " ", "  a  "])]), 5)
        self.check(["> ~~~", "> a", "b"], ("quote", [("literal", ["a"])]), 2)
        self.check([">~~~", ">a", ">~~~ ", ">b"], ("quote", [("literal", ["a"]), para("b")]), 4)

    def test_quotes_in_quotes_to_four(self):
        told = para("a")
        for deep in range(1, 5):
            told = ("quote", [told])
            self.check([">" * deep + " a"], told, 1)
            self.check(["> " * deep + "a", "b"], told, 1)
        self.check(["> a", "> > b", "> c"], ("quote", [para("a"), ("quote", [para("b")]), para("c")]), 3)
        self.check([">>>>"], ("quote", [("quote", [("quote", [("quote", [])])])]), 1)

    def test_the_fifth_sign_is_words(self):
        told = ("quote", [("quote", [("quote", [("quote", [para("> a")])])])])
        self.check(["> > > > > a"], told, 1)
        self.check([">>>>> a"], told, 1)
        told = ("quote", [("quote", [("quote", [("quote", [para(">> a b")])])])])
        self.check([">>>>>>  a  b "], told, 1)
        self.check(["> a"], ("para", plain("> a")), 1, deep=4)
        self.check([">"], ("para", plain(">")), 1, deep=4)
        self.check([">  a  b ", "c", "> d", " e", ">f", ""], ("para", plain("> a b c > d e >f")), 5, deep=4)

    def test_such_a_row_has_no_far(self):
        self.check(["- a", "> b"], ("list", [entry("a")]), 1, deep=4)
        self.check(["[^a]: b", "> c"], ("note", "a", plain("b")), 1, deep=4)
        self.check(["- a", "  > b"], ("list", [entry("a > b")]), 2, deep=4)

    def test_deep_is_counted_from_what_lies_around(self):
        self.check([">> a"], ("quote", [para("> a")]), 1, deep=3)
        self.check([">>> a"], ("quote", [("quote", [para("> a")])]), 1, deep=2)


class Tables(BlockCase):
    def cells(self, *texts):
        return [plain(text) if text else [] for text in texts]

    def test_without_a_head(self):
        self.check(["| a |"], ("table", [], [], [self.cells("a")]), 1)
        self.check(["||"], ("table", [], [], [self.cells("")]), 1)
        self.check(["|a|b|", "| c  d | |", ""], ("table", [], [], [self.cells("a", "b"), self.cells("c d", "")]), 2)
        self.check(["|---|"], ("table", [], [], [self.cells("---")]), 1)
        self.check(["|a|", "|b|", "|---|"], ("table", [], [], [self.cells("a"), self.cells("b"), self.cells("---")]), 3)

    def test_with_a_head(self):
        self.check(["|a|", "|-|"], ("table", self.cells("a"), ["left"], []), 2)
        self.check(["|a|b|c|", "|-|---:|-:|", "|d|e|f|", "x"],
                   ("table", self.cells("a", "b", "c"), ["left", "right", "right"], [self.cells("d", "e", "f")]), 3)
        self.check(["|--|", "|--|", "|--|"], ("table", self.cells("--"), ["left"], [self.cells("--")]), 3)
        self.check(["||", "| --: |", "||"], ("table", self.cells(""), ["right"], [self.cells("")]), 3)

    def test_rules_that_are_nearly_such(self):
        for text in [":--", "- -", "", ":", "--::", "\\---", "-a", "=", "*-*", "`-`"]:
            told = tree("|a|b|", f"|---|{text}|")
            self.assertEqual(told[0][1:3], ([], []), text)
            self.assertEqual(len(told[0][3]), 2)

    def test_rows_of_unlike_lengths(self):
        self.check(["|a|", "|b|c|d|", "|e|f|"],
                   ("table", [], [], [self.cells("a", "", ""), self.cells("b", "c", "d"), self.cells("e", "f", "")]), 3)
        self.check(["|a|", "|-|", "|b|c|"],
                   ("table", self.cells("a", ""), ["left", "left"], [self.cells("b", "c")]), 3)
        self.check(["|a|b|", "|-:|", "|c|"],
                   ("table", self.cells("a", "b"), ["right", "left"], [self.cells("c", "")]), 3)

    def test_the_row_of_sides_may_be_the_longest(self):
        self.check(["|a|", "|-:|-|-:|", "|b|c|"],
                   ("table", self.cells("a", "", ""), ["right", "left", "right"], [self.cells("b", "c", "")]), 3)
        self.check(["|a|", "|-|-:|"], ("table", self.cells("a", ""), ["left", "right"], []), 2)

    def test_bars_and_marks_in_cells(self):
        self.check(["| a\\|b | *c* |"], ("table", [], [], [[plain("a|b"), [("strong", plain("c"))]]]), 1)
        self.check(["| *a | b* |"], ("table", [], [], [self.cells("*a", "b*")]), 1)
        self.check(["|`a|b`|"], ("table", [], [], [self.cells("`a", "b`")]), 1)
        self.check(["|`a\\|b`|"], ("table", [], [], [[[("code", "a|b")]]]), 1)

    def test_rows_that_end_them(self):
        for row in ["", "a", " |a|", "|a", "- a", "= a", "> |a|", "~~~", "[a]: b"]:
            self.check(["|a|", row, "|b|"], ("table", [], [], [self.cells("a")]), 1)


class Items(BlockCase):
    def test_one_list(self):
        self.check(["- a"], ("list", [entry("a")]), 1)
        self.check(["+ a  b "], ("list", [entry("a b", sign="+")]), 1)
        self.check(["- a", "+ b", "- c", ""], ("list", [entry("a"), entry("b", sign="+"), entry("c")]), 3)
        self.check(["- *a*"], ("list", [("-", [("strong", plain("a"))], [])]), 1)

    def test_rows_that_go_on(self):
        self.check(["- a", " b"], ("list", [entry("a b")]), 2)
        self.check(["- a", "      b  c", " d", "- e", "  f"], ("list", [entry("a b c d"), entry("e f")]), 5)
        self.check(["- a", "  - b", "  c"], ("list", [entry("a", entry("b c"))]), 3)
        self.check(["- *a", " b*"], ("list", [("-", [("strong", plain("a b"))], [])]), 2)
        self.check(["- a", "  = b", " | c |", "  > d"], ("list", [entry("a = b | c | > d")]), 4)

    def test_rows_that_do_not(self):
        for row in ["b", "", "  ", "= b", "> b", "| b |", "~~~", "[b]: c", "[^b]: c"]:
            self.check(["- a", row, "- c"], ("list", [entry("a")]), 1)
            self.check(["- a", " b", row, "  c"], ("list", [entry("a b")]), 2)

    def test_levels(self):
        self.check(["- a", "  - b", "    - c", "  - d", "- e"],
                   ("list", [entry("a", entry("b", entry("c")), entry("d")), entry("e")]), 5)

    def test_odd_blanks_ahead(self):
        self.check(["- a", " - b"], ("list", [entry("a"), entry("b")]), 2)
        self.check(["- a", "   - b"], ("list", [entry("a", entry("b"))]), 2)
        self.check(["- a", "  - b", "     - c"], ("list", [entry("a", entry("b", entry("c")))]), 3)
        self.check(["- a", "  - b", "   - c"], ("list", [entry("a", entry("b"), entry("c"))]), 3)
        self.check([" - a", "  - b", "   - c"], ("list", [entry("a"), entry("b", entry("c"))]), 3)
        self.check(["   - a", "    - b", "     - c"], ("list", [entry("a"), entry("b", entry("c"))]), 3)

    def test_levels_that_jump(self):
        self.check(["- a", "        - b", "        - c"], ("list", [entry("a", entry("b", entry("c")))]), 3)
        self.check(["- a", "      - b", "  - c"], ("list", [entry("a", entry("b"), entry("c"))]), 3)
        self.check(["- a", "  - b", "    - c", "- d", "    - e"],
                   ("list", [entry("a", entry("b", entry("c"))), entry("d", entry("e"))]), 5)

    def test_levels_below_the_first_items(self):
        self.check(["    - a", "- b", "  - c"], ("list", [entry("a"), entry("b"), entry("c")]), 3)
        self.check(["    - a", "      - b", " - c", "      - d"],
                   ("list", [entry("a", entry("b")), entry("c", entry("d"))]), 4)
        self.check(["   - a", "  - b", "- c"], ("list", [entry("a"), entry("b"), entry("c")]), 3)

    def test_more_than_six_deep(self):
        rows = ["  " * level + "- " + "abcdefgh"[level] for level in range(8)]
        told = entry("e", entry("f"), entry("g"), entry("h"))
        for words in "dcba":
            told = entry(words, told)
        self.check(rows, ("list", [told]), 8)
        self.check(rows + ["          - i", "        - j"],
                   ("list", [entry("a", entry("b", entry("c", entry("d", entry(
                       "e", entry("f"), entry("g"), entry("h"), entry("i")), entry("j")))))]), 10)

    def test_signs(self):
        self.check(["- a", "  + b", "  - c"], ("list", [entry("a", entry("b", sign="+"), entry("c"))]), 3)


class Paras(BlockCase):
    def test_paras(self):
        self.check(["a"], para("a"), 1)
        self.check(["a  b ", "c"], para("a b c"), 2)
        self.check(["a *b", "c* d"], ("para", [("plain", "a "), ("strong", plain("b c")), ("plain", " d")]), 2)
        self.check(["|", "[a b]: c", "-"], para("| [a b]: c -"), 3)

    def test_whatever_their_far(self):
        self.check(["  a", "b", "      c  ", " d", ""], para("a b c d"), 4)
        self.check(["a", "   = b", " | c |", " > d"], para("a = b | c | > d"), 4)

    def test_rows_that_end_them(self):
        for row in ["", "  ", "- b", "  + b", "= b", "> b", "| b |", "~~~", "[b]: c", "[^b]: c"]:
            self.check(["a", row, "c"], para("a"), 1)


class Kinds(unittest.TestCase):
    def test_the_class_of_each_block(self):
        for row, kind in [
            ("= a", Heading), ("a", Para), ("~~~", Literal), ("> a", Quote), ("[a]: b", Naming), ("[^a]: b", Noting),
            ("- a", Listing), ("| a |", Table),
        ]:
            self.assertIs(type(block_at([row], 0, 0)[0]), kind)


class BlocksOf(unittest.TestCase):
    def told(self, rows, deep=0):
        triples = blocks_of(rows, deep)
        self.assertIsInstance(triples, list)
        self.assertTrue(all(isinstance(triple, tuple) for triple in triples))
        return [(block.told(), first, behind) for block, first, behind in triples]

    def test_no_blocks(self):
        for rows in [[], [""], ["", " ", "   "]]:
            self.assertEqual(blocks_of(rows, 0), [])

    def test_spans(self):
        self.assertEqual(self.told(["a"]), [(para("a"), 0, 1)])
        self.assertEqual(self.told(["", " ", "a", "b", "", "= c", "d", ""]), [
            (para("a b"), 2, 4), (("heading", 1, plain("c")), 5, 6), (para("d"), 6, 7)])
        self.assertEqual(self.told(["- a", "", "- b", "> c", "d", "~~~", "", "~~~", "e"]), [
            (("list", [entry("a")]), 0, 1), (("list", [entry("b")]), 2, 3), (("quote", [para("c")]), 3, 4), (para("d"), 4, 5),
            (("literal", [""]), 5, 8), (para("e"), 8, 9)])

    def test_deep(self):
        self.assertEqual(self.told(["> a"], 3), [(("quote", [para("a")]), 0, 1)])
        self.assertEqual(self.told(["> a", "", ">"], 4), [(para("> a"), 0, 1), (para(">"), 2, 3)])

    def test_as_a_second_reading_has_it(self):
        dice = draw("second")
        for _ in range(15000):
            rows = drawn_rows(dice)
            for deep in [0, 4]:
                told = self.told(rows, deep)
                self.assertEqual([one[0] for one in told], second.tree(rows, deep), rows)
                self.assertEqual([one[1:] for one in told], [tuple(one[1:]) for one in second.spans(rows, deep)], rows)


class Reading(unittest.TestCase):
    def test_texts_without_blocks(self):
        for text in ["", " ", "\n", "\n\n\n", "   \n \n    ", "\n "]:
            with self.subTest(text=text):
                document = read(text)
                self.assertIsInstance(document, Document)
                self.assertEqual((document.told(), document.text(), document.written()), ([], "", [""]))

    def test_a_text_of_all(self):
        self.assertEqual(tree(
            "= a", "b", "c", "", "- d", "  + e", "f", "| g |", "| - |", "~~~", "h", "~~~", "> i", "[j]: k", "[^l]: m", " n"), [
            ("heading", 1, plain("a")), para("b c"), ("list", [entry("d", entry("e", sign="+"))]), para("f"),
            ("table", [plain("g")], ["left"], []), ("literal", ["h"]), ("quote", [para("i")]), ("name", "j", "k"),
            ("note", "l", plain("m n"))])

    def refuse(self, thing):
        with self.assertRaises(BadText) as caught:
            read(thing)
        self.assertIs(type(caught.exception), BadText)

    def test_refuses_a_tab(self):
        for text in ["\t", "a\tb", "a\n\tb", "~~~\n\t", "> \t", "`\t`"]:
            self.refuse(text)

    def test_refuses_what_is_no_text(self):
        for thing in no_texts():
            self.refuse(thing)

    def test_refuses_nothing_else(self):
        signs = [chr(number) for number in range(32, 127) if chr(number) != "%"]
        for sign in signs:
            for text in [sign, sign * 3, sign + " a", "a" + sign, sign + "\n" + sign]:
                read(text)


class BackAndForth(unittest.TestCase):
    """Point 15: of a tree and of a text."""

    def test_the_text_of_a_drawn_tree_is_read_as_that_tree(self):
        dice = draw("trees")
        for _ in range(4000):
            told = drawn_tree(dice)
            document = made(told)
            text = document.text()
            self.assertEqual(read(text).told(), told, text)
            self.assertEqual(rows_of(text), document.written())
            self.assertEqual(read(text).text(), text)

    def back_and_forth(self, text):
        told = read(text).told()
        written = read(text).text()
        again = read(written)
        self.assertEqual(again.told(), told, text)
        self.assertEqual(again.text(), written, text)
        # What is read is a tree by points 9 and 13.
        self.assertEqual(made(told).told(), told, text)
        self.assertEqual(made(told).text(), written, text)

    def test_the_text_of_a_drawn_texts_tree(self):
        dice = draw("texts of rows")
        for _ in range(6000):
            self.back_and_forth(drawn_marked_text(dice))

    def test_the_text_of_a_wild_texts_tree(self):
        dice = draw("wild texts")
        pieces = list(" \n\n>~=|\\[]^:-+a*`()") + ["~~~", "\n~~~\n", "\n- ", "\n  ", "| a |", "[a]: b", "[^a]: c", "|--:|", "\n> "]
        for _ in range(12000):
            self.back_and_forth(drawn_text(dice, pieces, 24))

    def test_long_texts(self):
        for piece in ["a\n", "- a\n", "  - a\n    b\n", "| a |\n", ">>>>> a\n", ">", "= a\n", "~~~\n", "\n", "|", "[^a]: b\n c\n", "*["]:
            text = (piece * LONGEST)[:LONGEST]
            with self.subTest(piece=piece):
                document = read(text)
                self.assertTrue(read(document.text()).told() == document.told())


class Own(unittest.TestCase):
    """Point 1: what is told is the asker's own, what is handed in is neither changed nor kept."""

    def test_rows_handed_in_are_neither_changed_nor_kept(self):
        for rows in [["~~~", "a", "b"], ["> ~~~", "> a"], ["| a |", "| b | c |"], ["- a", "  - b"], ["a", "b"]]:
            given = list(rows)
            block = block_at(given, 0, 0)[0]
            blocks = blocks_of(given, 0)
            told = block.told()
            self.assertEqual(given, rows)
            given.clear()
            given.append("~~~")
            self.assertEqual(block.told(), told)
            self.assertEqual([triple[0].told() for triple in blocks], [told])

    def test_told_lists_are_told_anew(self):
        rows = ["> ~~~", "> a", "b"]
        blocks_of(rows, 0).clear()
        blocks_of([], 0).append("a")
        self.assertEqual(len(blocks_of(rows, 0)), 2)
        self.assertEqual(blocks_of([], 0), [])
        read("a").told()[0][1].clear()
        self.assertEqual(read("a").told(), [para("a")])
