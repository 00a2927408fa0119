"""Points 1, 10, 11, 12 and 18 and setter.py: documents set as rows of a width."""

import unittest

from lightmark.blocks import Block, Noting, Para
from lightmark.columns import beside, shares
from lightmark.document import Document
from lightmark.errors import BadWidth
from lightmark.fill import filled
from lightmark.inline import need_parts
from lightmark.made import made
from lightmark.parts import Mark, Plain, said_of
from lightmark.reader import read
from lightmark.setter import set_rows
from tests.draws import draw, drawn_marked_text, drawn_tree
from tests.test_joins import joined_slowly
from tests.things import no_texts

WIDTHS = [24, 25, 31, 40, 80, 119, 120]


def rows(text, width=24):
    return set_rows(read(text), width)


class SetCase(unittest.TestCase):
    def check(self, text, asked, width=24):
        with self.subTest(text=text, width=width):
            told = rows(text, width)
            self.assertEqual(told, asked)
            self.assertIsInstance(told, list)


class Widths(unittest.TestCase):
    def refuse(self, width):
        with self.assertRaises(BadWidth) as caught:
            set_rows(read("a"), width)
        self.assertIs(type(caught.exception), BadWidth)

    def test_widths(self):
        for width in range(24, 121):
            self.assertEqual(rows("a", width), ["a"])
            self.assertEqual([len(row) for row in rows("a" * 250, width)][:2], [width, width])

    def test_refused(self):
        for width in [23, 121, 0, -1, -24, 10 ** 20, True, False, None, "24", "", "a", 24.0, 30.5, [24], (24,), {24: 24}]:
            self.refuse(width)
        for thing in no_texts():
            self.refuse(thing)


class Headings(SetCase):
    def test_levels(self):
        self.check("= a b", ["a b", "==="])
        self.check("== a b", ["a b", "---"])
        self.check("=== a b", ["a b"])

    def test_as_long_as_the_longest_row(self):
        self.check("= " + "a" * 24, ["a" * 24, "=" * 24])
        self.check("= " + "a" * 25, ["a" * 24, "a", "=" * 24])
        self.check("== aaaaaaaaaaaa bbbbbbbbbbb ccc", ["aaaaaaaaaaaa bbbbbbbbbbb", "ccc", "-" * 24])
        self.check("== aaaaaaaaaaaa bbbbbbbbbbbb ccc", ["aaaaaaaaaaaa", "bbbbbbbbbbbb ccc", "-" * 16])
        self.check("=== aaaaaaaaaaaa bbbbbbbbbbbb ccc", ["aaaaaaaaaaaa", "bbbbbbbbbbbb ccc"])
        self.check("= *a* `b`", ["*a* 'b'", "======="])


class Paras(SetCase):
    def test_filled(self):
        self.check("a", ["a"])
        self.check("one two three four five six", ["one two three four five", "six"])
        self.check("one two three four fives six", ["one two three four fives", "six"])
        self.check("one two three four fivess six", ["one two three four", "fivess six"])
        self.check("a " + "b" * 50 + " c", ["a", "b" * 24, "b" * 24, "bb c"])
        self.check("one two three four five six", ["one two three four five six"], 120)

    def test_parts(self):
        self.check("a *b* `c` [d](e)[^f]", ["a *b* 'c' d (?)[?]"])
        self.check("` a ` * b *", ["' a ' * b *"])
        self.check("[ ](a)", ["(?)"])
        self.check("\\*a\\* \\> b", ["*a* > b"])
        self.check("[one two](x) [^Y]\n\n[X]: /to\n[^y]: z", ["one two (/to) [1]", "", "---", "[1] z"])

    def test_between_blocks(self):
        self.check("a\n\n\n\nb\n= c", ["a", "", "b", "", "c", "="])
        self.check("a\n\n[x]: y\n\n[^z]: w\n\nb", ["a", "", "b"])
        self.check("[x]: y\n\na", ["a"])
        self.check("a\n\n[x]: y", ["a"])

    def test_nothing(self):
        for text in ["", "\n\n", "[x]: y", "[^x]: y", ">", "> [a]: b", "~~~\n~~~", "> > ~~~\n> > ~~~"]:
            self.check(text, [])


class Lists(SetCase):
    def test_signs(self):
        self.check("- a\n- b", ["- a", "- b"])
        self.check("+ a\n+ b", ["1. a", "2. b"])

    def test_counted_anew(self):
        self.check("+ a\n+ b\n- c\n+ d\n+ e\n- f\n- g\n+ h", ["1. a", "2. b", "- c", "1. d", "2. e", "- f", "- g", "1. h"])
        self.check("+ a\n  + b\n  + c\n+ d\n  - e\n+ f\n  + g", [
            "1. a", "  1. b", "  2. c", "2. d", "  - e", "3. f", "  1. g"])
        self.check("- a\n  + b\n- c\n  + d", ["- a", "  1. b", "- c", "  1. d"])

    def test_two_figures_and_more(self):
        told = rows("\n".join(["+ abcdefgh ijklmnop qr st"] * 101))
        self.assertEqual(told[0:2], ["1. abcdefgh ijklmnop qr", "   st"])
        self.assertEqual(told[16:22], [
            "9. abcdefgh ijklmnop qr", "   st", "10. abcdefgh ijklmnop qr", "    st", "11. abcdefgh ijklmnop qr", "    st"])
        self.assertEqual(told[198:200], ["100. abcdefgh ijklmnop", "     qr st"])
        self.assertEqual(len(told), 202)

    def test_further_rows(self):
        self.check("- one two three four five", ["- one two three four", "  five"])
        self.check("- one two three four fi", ["- one two three four fi"])
        self.check("- a\n  - one two three four five", ["- a", "  - one two three four", "    five"])
        self.check("- " + "x" * 45, ["- " + "x" * 22, "  " + "x" * 22, "  x"])
        self.check("+ " + "x" * 43, ["1. " + "x" * 21, "   " + "x" * 21, "   x"])

    def test_six_within_each_other(self):
        text = "\n".join("  " * level + "-+"[level % 2] + " abcdefghijklmnop" for level in range(6))
        self.check(text, [
            "- abcdefghijklmnop", "  1. abcdefghijklmnop", "    - abcdefghijklmnop", "      1. abcdefghijklmno", "         p",
            "        - abcdefghijklmn", "          op", "          1. abcdefghijk", "             lmnop"])

    def test_the_narrowest(self):
        text = "\n".join(">>>> " + "  " * level + "+ abc" for level in range(6)) + "\n" + "\n".join(
            [">>>>           + abc"] * 9)
        told = rows(text)
        self.assertEqual(told[:6], [
            "> > > > " + "  " * level + "1. abc" for level in range(6)])
        self.assertEqual(told[-2:], ["> > > >           10. ab", "> > > >               c"])


class Tables(SetCase):
    def test_with_a_head(self):
        self.check("| a | bb |\n|---|--:|\n| ccc | d |\n| e | |", [
            "a   | bb", "----+---", "ccc |  d", "e   |"])
        self.check("| a |\n|-:|\n| bcd |", ["  a", "---", "bcd"])
        self.check("| a |\n|-|", ["a", "-"])

    def test_without_a_head(self):
        self.check("| a | bb |\n| ccc | d |", ["a   | bb", "ccc | d"])
        self.check("| a |", ["a"])
        self.check("| a | b |", ["a | b"])

    def test_empty_cells(self):
        self.check("| | |\n| a | |", ["  |", "a |"])
        self.check("| |", [""])
        self.check("| |\n|-:|\n| |", ["", "-", ""])
        self.check("a\n| |\nb", ["a", "", "", "", "b"])
        self.check("| | | |\n|-|-|-|", ["  |   |", "--+---+--"])

    def test_wants_are_of_words_as_they_are_set(self):
        self.check("| *a* `b` | c |\n|---|---|\n| [x](l) | d |\n\n[l]: /there", [
            "*a* 'b'    | c", "-----------+--", "x (/there) | d"])
        self.check("| ` a ` | c |", ["' a ' | c"])

    def test_shares_of_the_room(self):
        self.check("| one two three four | five six seven |\n|---|--:|\n| a | b |", [
            "one two    |    five six", "three four |       seven", "-----------+------------", "a          |           b"])
        self.check("| " + "a" * 12 + " | " + "b" * 9 + " |", ["a" * 12 + " | " + "b" * 9])
        self.check("| " + "a" * 12 + " | " + "b" * 10 + " |", ["a" * 11 + " | " + "b" * 10, "a" + " " * 10 + " |"])
        self.check("| " + "a" * 40 + " |", ["a" * 24, "a" * 16])

    def test_just_narrow_enough_and_just_too_wide(self):
        # Four times the columns less 3: of six columns 21, of seven 25.
        six, seven = "|" + "ab|" * 6, "|" + "ab|" * 7
        self.check(six, ["a | a | a | ab | ab | ab", "b | b | b |    |    |"])
        self.check(seven, ["- ab"] * 7)
        self.check(seven, ["a | a | a | a | a | a | a", "b | b | b | b | b | b | b"], 25)
        self.check("|" + "a|" * 30, [" | ".join("a" * 30)], 120)
        self.check("|" + "a|" * 31, ["- a"] * 31, 120)
        self.check("|" + "a|" * 30, ["- a"] * 30, 116)
        self.check("|" + "a|" * 30, [" | ".join("a" * 30)], 117)

    def test_each_cell_by_itself(self):
        cells = ["one two three four five six", "", "b", "x" * 30, "", "c", "d"]
        text = "|" + "|".join(cells) + "|"
        asked = ["- one two three four", "  five six", "- b", "- " + "x" * 22, "  " + "x" * 8, "- c", "- d"]
        self.check(text, asked)
        self.check(text + "\n" + "|-" * 7 + "|\n" + "|e|||||f|g|", asked + ["- e", "- f", "- g"])
        self.check(text + "\n" + "||h||||||\n" + "|e|||||f|g|", asked + ["- h", "- e", "- f", "- g"])

    def test_a_wide_table_of_empty_cells_has_no_rows(self):
        self.check("|" * 8, [])
        self.check("a\n" + "|" * 8 + "\nb", ["a", "", "b"])
        self.check("> " + "|" * 8, [])

    def test_in_quotes(self):
        self.check("> |" + "ab|" * 6, ["> a | a | a | a | a | ab", "> b | b | b | b | b |"])
        self.check(">> |" + "ab|" * 6, ["> > - ab"] * 6)


class Literals(SetCase):
    def test_lines(self):
        self.check("~~~\na\n  b  c  \n~~~", ["    a", "      b  c"])
        self.check("~~~\n\na\n\n~~~", ["", "    a", ""])
        self.check("~~~\n   \n~~~", [""])
        self.check("~~~\n~~~", [])
        self.check("~~~\n*a* [b](c)\n> d\n~~~", ["    *a* [b](c)", "    > d"])

    def test_lines_longer_than_a_row(self):
        self.check("~~~\n" + "a" * 20 + "\n~~~", ["    " + "a" * 20])
        self.check("~~~\n" + "a" * 21 + "\n~~~", ["    " + "a" * 20, "    a"])
        self.check("~~~\n" + "a" * 40 + "\nb\n~~~", ["    " + "a" * 20, "    " + "a" * 20, "    b"])
        self.check("~~~\n" + "a" * 18 + "    b\n~~~", ["    " + "a" * 18, "      b"])
        self.check("~~~\n" + " " * 45 + "b\n~~~", ["", "", "    " + " " * 5 + "b"])
        self.check("~~~\n" + "a" * 117 + "\n~~~", ["    " + "a" * 116, "    a"], 120)

    def test_between_blocks(self):
        self.check("a\n~~~\n\n~~~\nb", ["a", "", "", "", "b"])
        self.check("a\n~~~\n~~~\nb", ["a", "", "b"])


class Quotes(SetCase):
    def test_quotes(self):
        self.check("> a", ["> a"])
        self.check("> a\n>\n> b", ["> a", ">", "> b"])
        self.check("> = a\n> b", ["> a", "> =", ">", "> b"])
        self.check("> ~~~\n>\n> a\n> ~~~", [">", ">     a"])

    def test_a_width_of_two_less(self):
        self.check("> one two three four five", ["> one two three four", "> five"])
        self.check("> one two three four fi", ["> one two three four fi"])
        self.check("> " + "a" * 23, ["> " + "a" * 22, "> a"])
        self.check("> ~~~\n> " + "a" * 19, [">     " + "a" * 18, ">     a"])

    def test_quotes_in_quotes(self):
        self.check(">>>> abcdefghijklmnopq", ["> > > > abcdefghijklmnop", "> > > > q"])
        self.check("> a\n> > b\n> > > c", ["> a", ">", "> > b", "> >", "> > > c"])
        self.check("> > a\n> b", ["> > a", ">", "> b"])

    def test_some_without_rows(self):
        self.check(">\n\na", ["a"])
        self.check("> a\n> > [x]: y\n> b", ["> a", ">", "> b"])
        self.check("> > [x]: y\n> b", ["> b"])
        self.check("a\n> > [x]: y\n\nb", ["a", "", "b"])
        self.check("> > ~~~\n> > ~~~\n> a\n> >", ["> a"])


class Notes(SetCase):
    def test_behind_all(self):
        self.check("a[^x] b[^y]\n\n[^y]: why\n[^x]: ex", ["a[1] b[2]", "", "---", "[1] ex", "[2] why"])
        self.check("[^x]: one two three four fives\n\n[^x]", ["[1]", "", "---", "[1] one two three four", "    fives"])
        self.check("[^x]\n\n[^x]: " + "a" * 21, ["[1]", "", "---", "[1] " + "a" * 20, "    a"])

    def test_only_those_with_numbers(self):
        self.check("a\n\n[^x]: y", ["a"])
        self.check("[^x]\n\n[^y]: z", ["[?]"])
        self.check("[^x]\n\n[^x]: y\n[^x]: z\n[^w]: v", ["[1]", "", "---", "[1] y"])

    def test_notes_that_use_notes(self):
        self.check("[^x]\n\n[^x]: [^y] [a](l)\n[^y]: [^x] [^z]\n[l]: /t", [
            "[1]", "", "---", "[1] [2] a (/t)", "[2] [1] [?]"])

    def test_where_no_rows_stand_ahead(self):
        # No block of the program's own uses a note and has no rows.
        class Hidden(Block):
            def texts(self):
                return [[Mark("x")]]
        document = Document([Hidden(), Noting("x", [Plain("y")])])
        self.assertEqual(set_rows(document, 24), ["---", "[1] y"])
        self.assertEqual(set_rows(Document([Para([Plain("a")]), Hidden(), Noting("x", [Plain("y")])]), 24), [
            "a", "", "---", "[1] y"])

    def test_as_wide_as_all(self):
        self.check("> [^x]\n> [^x]: one two three four f", ["> [1]", "", "---", "[1] one two three four f"])

    def test_numbers_of_two_figures(self):
        names = "abcdefghijkl"
        text = " ".join(f"[^{name}]" for name in names) + "\n" + "\n".join(
            f"[^{name}]: one two three four five" for name in names)
        told = rows(text)
        self.assertEqual(told[:4], ["[1] [2] [3] [4] [5] [6]", "[7] [8] [9] [10] [11]", "[12]", ""])
        self.assertEqual(told[4:7], ["---", "[1] one two three four", "    five"])
        self.assertEqual(told[-2:], ["[12] one two three four", "     five"])


class Said:
    """Point 18 once more, straight over a told tree, to hold the program against."""

    def __init__(self, tree):
        self.tree = tree
        self.numbered = joined_slowly(tree)[0]
        self.names, self.notes = {}, {}
        self.define(tree)

    def define(self, tree):
        for block in tree:
            if block[0] == "name":
                self.names.setdefault(block[1], block[2])
            if block[0] == "note":
                self.notes.setdefault(block[1], block[2])
            if block[0] == "quote":
                self.define(block[1])

    def words(self, told):
        def note(name):
            return str(self.numbered.index(name) + 1) if name in self.numbered else "?"
        return said_of(need_parts(told), lambda name: self.names.get(name, "?"), note).split()

    def fill(self, told, width, first="", further=""):
        return filled(self.words(told), width, lambda number: further if number else first)

    def rows(self, width):
        told = self.several(self.tree, width)
        if self.numbered:
            told += [""] * bool(told) + ["---"]
        for number, name in enumerate(self.numbered):
            ahead = f"[{number + 1}] "
            told += self.fill(self.notes[name], width, ahead, " " * len(ahead))
        return told

    def several(self, tree, width):
        told = [rows for rows in [self.block(block, width) for block in tree] if rows]
        return [row for number, rows in enumerate(told) for row in [""] * (number > 0) + rows]

    def block(self, block, width):
        if block[0] == "heading":
            told = self.fill(block[2], width)
            return told + [("=" if block[1] == 1 else "-") * max(map(len, told))] * (block[1] < 3)
        if block[0] == "para":
            return self.fill(block[1], width)
        if block[0] == "list":
            return self.entries(block[1], width, 0)
        if block[0] == "table":
            return self.table(block, width)
        if block[0] == "literal":
            pieces = [line[place:place + width - 4] for line in block[1] for place in range(0, len(line) or 1, width - 4)]
            return [("    " + piece).rstrip() for piece in pieces]
        if block[0] == "quote":
            return [("> " + row).rstrip() for row in self.several(block[1], width - 2)]
        return []

    def entries(self, entries, width, around):
        told, signs = [], ""
        for sign, parts, within in entries:
            signs += sign
            count = len(signs) - len(signs.rstrip("+"))
            ahead = "  " * around + (f"{count}. " if count else "- ")
            told += self.fill(parts, width, ahead, " " * len(ahead)) + self.entries(within, width, around + 1)
        return told

    def table(self, block, width):
        lines = [[self.words(cell) for cell in line] for line in [block[1]] * bool(block[1]) + block[3]]
        columns = len(lines[0])
        if 4 * columns - 3 > width:
            return [row for line in lines for cell in line for row in filled(cell, width, lambda number: "  " if number else "- ")]
        wants = [max([1] + [len(" ".join(line[column])) for line in lines]) for column in range(columns)]
        widths = shares(wants, width - 3 * columns + 3)
        told = [beside(line, widths, block[2] or ["left"] * columns) for line in lines]
        if block[1]:
            told.insert(1, ["-+-".join("-" * wide for wide in widths)])
        return [row for rows in told for row in rows]


class Drawn(unittest.TestCase):
    def agree(self, document, width):
        told = set_rows(document, width)
        self.assertEqual(told, Said(document.told()).rows(width), document.text())
        for row in told:
            self.assertLessEqual(len(row), width)
            self.assertEqual(row, row.rstrip(" "))

    def test_drawn_trees_and_texts(self):
        dice = draw("set")
        for _ in range(1500):
            self.agree(made(drawn_tree(dice)), dice.choice(WIDTHS))
            self.agree(read(drawn_marked_text(dice)), dice.choice(WIDTHS))

    def test_longer_words(self):
        dice = draw("longer")
        pieces = ["word ", "longerword ", "[link](a) ", "[^n] ", "*strong* ", "`code` ", "x" * 30 + " ", "\n- ", "\n  + ", "\n| ", " | ", " |\n", "\n> ",
                  "\n\n", "\n= ", "\n~~~\n", "\n[a]: /target\n", "\n[^n]: note ", "\n+ ", "\n| - | -: |\n", "\n== "]
        for _ in range(1500):
            text = "".join(dice.choice(pieces) for _ in range(dice.randint(1, 60)))
            self.agree(read(text), dice.choice(WIDTHS))

    def test_long_texts(self):
        for piece in ["a ", "a", "- a\n", "+ a\n", "| a ", "|a|\n", "> a\n>\n", "~~~\na\n", "[^a] ", "= a\n", "[^a]: b\n", "| ab | c |\n"]:
            document = read((piece * 20_000)[:20_000])
            for width in [24, 120]:
                self.assertTrue(all(len(row) <= width for row in set_rows(document, width)))


class Own(unittest.TestCase):
    """Point 1: what is told is the asker's own, what is handed in is neither changed nor kept."""

    def test_rows_are_told_anew(self):
        document = read("a[^n]\n- b\n[^n]: c")
        asked = ["a[1]", "", "- b", "", "---", "[1] c"]
        told = set_rows(document, 24)
        told.clear()
        self.assertEqual(set_rows(document, 24), asked)
        set_rows(read(""), 24).append("x")
        self.assertEqual(set_rows(read(""), 24), [])

    def test_the_document_stays(self):
        dice = draw("stays")
        for _ in range(200):
            tree = drawn_tree(dice)
            document = made(tree)
            text = document.text()
            set_rows(document, 24)
            self.assertEqual((document.told(), document.text()), (tree, text))
