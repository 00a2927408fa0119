"""Points 1 and 4 and sorts.py: the sort of a row."""

import itertools
import re
import unittest

from lightmark.signs import split_cells, tidy
from lightmark.sorts import sort_of

LONGEST = 200_000


class SortCase(unittest.TestCase):
    def check(self, pairs):
        for row, told in pairs:
            with self.subTest(row=row):
                answer = sort_of(row)
                self.assertEqual(answer, told)
                self.assertIsInstance(answer, tuple)
                self.assertEqual([type(value) for value in answer], [type(value) for value in told])

    def check_plain(self, rows):
        self.check([(row, ("plain", len(row) - len(row.lstrip(" ")), tidy(row))) for row in rows])


class Empty(SortCase):
    def test_empty(self):
        self.check([(row, ("empty",)) for row in ["", " ", "  ", " " * 9]])

    def test_nearly(self):
        self.check_plain([".", " .", ". ", "   .   "])


class Quote(SortCase):
    def test_quote(self):
        self.check([
            (">", ("quote", "")),
            ("> ", ("quote", "")),
            ("> a", ("quote", "a")),
            (">a", ("quote", "a")),
            (">  a", ("quote", " a")),
            (">   a b", ("quote", "  a b")),
            (">>", ("quote", ">")),
            (">> a", ("quote", "> a")),
            ("> > a", ("quote", "> a")),
            (">~~~", ("quote", "~~~")),
            ("> - a", ("quote", "- a")),
            ("> [a]: b", ("quote", "[a]: b")),
            (">a  b", ("quote", "a  b")),
        ])

    def test_the_rest_is_of_the_row_and_not_of_bare(self):
        self.check([
            (">  ", ("quote", " ")),
            (">   ", ("quote", "  ")),
            ("> a ", ("quote", "a ")),
            (">a   ", ("quote", "a   ")),
            (">  a  b  ", ("quote", " a  b  ")),
            ("> > ", ("quote", "> ")),
        ])

    def test_nearly(self):
        self.check_plain([" >", " > a", "    > a", "a > b", "\\> a", "<a"])


class Fence(SortCase):
    def test_fence(self):
        self.check([(row, ("fence",)) for row in ["~~~", "~~~ ", "~~~     "]])

    def test_nearly(self):
        self.check_plain(["~", "~~", "~~~~", " ~~~", "  ~~~  ", "~~~ a", "~~~a", "a~~~", "~~ ~", "~ ~~", "\\~~~", "```"])


class Heading(SortCase):
    def test_heading(self):
        self.check([
            ("= a", ("heading", 1, "a")),
            ("== a", ("heading", 2, "a")),
            ("=== a", ("heading", 3, "a")),
            ("= a b", ("heading", 1, "a b")),
            ("==    a    b   ", ("heading", 2, "a b")),
            ("= =", ("heading", 1, "=")),
            ("= = a", ("heading", 1, "= a")),
            ("=== ====  a", ("heading", 3, "==== a")),
            ("= - a", ("heading", 1, "- a")),
            ("= > a", ("heading", 1, "> a")),
            ("= |a|", ("heading", 1, "|a|")),
            ("= [a]: b", ("heading", 1, "[a]: b")),
            ("= ~~~", ("heading", 1, "~~~")),
        ])

    def test_nearly(self):
        self.check_plain([
            "=", "==", "===", "====", "= ", "==   ", "=== ", "==== a", "===== a", "=a", "==a", "===a",
            " = a", "  == a", "=\\ a", "\\= a", "a = b", "==== =",
        ])


class CellRow(SortCase):
    def test_cells(self):
        self.check([
            ("||", ("cells", [""])),
            ("| |", ("cells", [""])),
            ("|||", ("cells", ["", ""])),
            ("|a|", ("cells", ["a"])),
            ("| a |", ("cells", ["a"])),
            ("| a |   ", ("cells", ["a"])),
            ("|  a  b  |c|", ("cells", ["a b", "c"])),
            ("|a||b|", ("cells", ["a", "", "b"])),
            ("| --- | --: |", ("cells", ["---", "--:"])),
            ("| = a | - b |", ("cells", ["= a", "- b"])),
        ])

    def test_bars_with_backslashes_ahead(self):
        self.check([
            ("|\\||", ("cells", ["|"])),
            ("|a\\|b|", ("cells", ["a|b"])),
            ("|a\\|b|c|", ("cells", ["a|b", "c"])),
            ("|a\\\\|b|", ("cells", ["a\\|b"])),
            ("|\\ |", ("cells", ["\\"])),
            ("|a\\ |b|", ("cells", ["a\\", "b"])),
            ("|\\|\\||", ("cells", ["||"])),
        ])

    def test_nearly(self):
        self.check_plain([
            "|", "| ", "|   ", "  |", "|a", "a|", "a|b", "| a | b", " |a|", "  ||", "\\|a|", "|a| b",
            "|\\|", "|a\\|", "|a\\|  ", "|a\\\\|", "|a\\\\\\|", "|a|b\\|", "\\||", "|\\",
        ])


class Note(SortCase):
    def test_note(self):
        self.check([
            ("[^a]: b", ("note", "a", "b")),
            ("[^a]: b c d", ("note", "a", "b c d")),
            ("[^a]:    b   c   ", ("note", "a", "b c")),
            ("[^1]: b", ("note", "1", "b")),
            ("[^aB9]: B C", ("note", "ab9", "B C")),
            ("[^ABCDEFGHIJKL]: x", ("note", "abcdefghijkl", "x")),
            ("[^a]: *b* [c](D)", ("note", "a", "*b* [c](D)")),
            ("[^a]: [^b]", ("note", "a", "[^b]")),
            ("[^a]: -", ("note", "a", "-")),
        ])

    def test_parted_at_the_first_end(self):
        self.check([
            ("[^a]: b]: c", ("note", "a", "b]: c")),
            ("[^a]: ]: c", ("note", "a", "]: c")),
            ("[^a]: [b]: c", ("note", "a", "[b]: c")),
            ("[^a]: b]:", ("note", "a", "b]:")),
        ])

    def test_nearly(self):
        self.check_plain([
            "[^a]:", "[^a]: ", "[^a]:    ", "[^a]:b", "[^a] : b", "[^a]b", "[^a]", "[^]: b", "[^ ]: b", "[^a b]: c",
            "[^ a]: b", "[^a ]: b", "[ ^a]: b", "[^^a]: b", "[^a-b]: c", "[^abcdefghijklm]: b", "[^a]]: b",
            "[^a]x]: b", "[^[a]: b", " [^a]: b", "   [^a]: b", "^a]: b", "\\[^a]: b", "x[^a]: b", "[^a]:b]: c",
            "[^a]; b",
        ])


class Name(SortCase):
    def test_name(self):
        self.check([
            ("[a]: b", ("name", "a", "b")),
            ("[a]: b   ", ("name", "a", "b")),
            ("[a]:    b", ("name", "a", "b")),
            ("[7]: b", ("name", "7", "b")),
            ("[aB9]: BcD", ("name", "ab9", "BcD")),
            ("[ABCDEFGHIJKL]: x", ("name", "abcdefghijkl", "x")),
            ("[a]: http://b.c/d?e=F#g", ("name", "a", "http://b.c/d?e=F#g")),
            ("[a]: \\*b\\|", ("name", "a", "\\*b\\|")),
            ("[a]: -", ("name", "a", "-")),
        ])

    def test_parted_at_the_first_end(self):
        self.check([
            ("[a]: b]:", ("name", "a", "b]:")),
            ("[a]: ]:", ("name", "a", "]:")),
        ])
        self.check_plain(["[a]: b]: c", "[a]: ]: b", "[a]: [b]: c", "[a b]: c]: d"])

    def test_nearly(self):
        self.check_plain([
            "[a]:", "[a]: ", "[a]:     ", "[a]:b", "[a] : b", "[a]b", "[a]", "[]: b", "[ ]: b", "[a b]: c", "[ a]: b",
            "[a ]: b", "[a^]: b", "[a-b]: c", "[abcdefghijklm]: b", "[[a]: b", "[a]]: b", "[a]x]: b", "[a]: b c",
            "[a]:  b  c  ", " [a]: b", "    [a]: b", "a]: b", "\\[a]: b", "x[a]: b", "(a]: b", "[a]; b", "]: b",
        ])


class Item(SortCase):
    def test_item(self):
        self.check([
            ("- a", ("item", 0, "-", "a")),
            ("+ a", ("item", 0, "+", "a")),
            (" - a", ("item", 1, "-", "a")),
            ("  + a", ("item", 2, "+", "a")),
            ("       - a", ("item", 7, "-", "a")),
            ("-    a    b   ", ("item", 0, "-", "a b")),
            ("  +   a  b ", ("item", 2, "+", "a b")),
            ("- -", ("item", 0, "-", "-")),
            ("- - a", ("item", 0, "-", "- a")),
            ("+ - a", ("item", 0, "+", "- a")),
            ("- = a", ("item", 0, "-", "= a")),
            ("- |a|", ("item", 0, "-", "|a|")),
            ("- > a", ("item", 0, "-", "> a")),
            ("- [a]: b", ("item", 0, "-", "[a]: b")),
            (" " * 99 + "- a", ("item", 99, "-", "a")),
        ])

    def test_nearly(self):
        self.check_plain([
            "-", "+", "- ", "+    ", "  -", "  +  ", "-a", "+a", "--", "-- a", "++ a", "-+ a", "* a", "\\- a", "a - b",
            "1. a", ": a", "---", "--:",
        ])


class Plain(SortCase):
    def test_plain(self):
        self.check([
            ("a", ("plain", 0, "a")),
            (" a", ("plain", 1, "a")),
            ("    a   b    ", ("plain", 4, "a b")),
            ("a b c", ("plain", 0, "a b c")),
            ("|", ("plain", 0, "|")),
            ("   |  ", ("plain", 3, "|")),
            ("[a b]: c", ("plain", 0, "[a b]: c")),
            (" > a", ("plain", 1, "> a")),
            ("  ~~~  ", ("plain", 2, "~~~")),
            ("  =  a", ("plain", 2, "= a")),
            ("  |  a  | ", ("plain", 2, "| a |")),
            ("  [a]:  b", ("plain", 2, "[a]: b")),
            ("  [^a]:  b  c", ("plain", 2, "[^a]: b c")),
        ])

    def test_longest_rows(self):
        for row, told in [
            (" " * LONGEST, ("empty",)),
            ("a" * LONGEST, ("plain", 0, "a" * LONGEST)),
            (" " * (LONGEST - 1) + "a", ("plain", LONGEST - 1, "a")),
            ("|" * LONGEST, ("cells", [""] * (LONGEST - 1))),
            (">" * LONGEST, ("quote", ">" * (LONGEST - 1))),
            ("=" * LONGEST, ("plain", 0, "=" * LONGEST)),
        ]:
            with self.subTest(row=row[-9:]):
                # Not assertEqual: of rows as long as these it would take very long to show what differs.
                self.assertTrue(sort_of(row) == told)


class FirstThatFits(SortCase):
    def test_the_first_sign_tells(self):
        self.check([
            (">= a", ("quote", "= a")),
            (">|a|", ("quote", "|a|")),
            ("> |a|", ("quote", "|a|")),
            ("|> a|", ("cells", ["> a"])),
            ("|[a]: b|", ("cells", ["[a]: b"])),
            ("= |", ("heading", 1, "|")),
            ("- ~~~", ("item", 0, "-", "~~~")),
            ("[^a]: |", ("note", "a", "|")),
            ("[a]: |", ("name", "a", "|")),
        ])


def patterned(row):
    """Point 4 once more, by patterns, to hold the program against."""
    bare = re.fullmatch(r"(.*?) *", row)[1]
    far = len(re.match(r" *", bare)[0])
    if far == len(bare):
        return ("empty",)
    found = re.fullmatch(r"> ?(.*)", row)
    if found:
        return ("quote", found[1])
    if re.fullmatch(r"~~~", bare):
        return ("fence",)
    found = re.fullmatch(r"(={1,3}) (.*)", bare)
    if found:
        return ("heading", len(found[1]), tidy(found[2]))
    found = re.fullmatch(r"\|(.*)(?<!\\)\|", bare)
    if found:
        return ("cells", split_cells(found[1]))
    found = re.fullmatch(r"\[(\^?)([a-zA-Z0-9]{1,12})\]: (.*)", bare)
    if found and found[1]:
        return ("note", found[2].lower(), tidy(found[3]))
    if found and re.fullmatch(r" *[^ ]+", found[3]):
        return ("name", found[2].lower(), found[3].lstrip(" "))
    found = re.fullmatch(r" *([-+]) (.*)", bare)
    if found:
        return ("item", far, found[1], tidy(found[2]))
    return ("plain", far, tidy(row))


class ByPatterns(unittest.TestCase):
    def agree(self, pieces, most):
        for length in range(most + 1):
            for picked in itertools.product(pieces, repeat=length):
                row = "".join(picked)
                self.assertEqual(sort_of(row), patterned(row), row)

    def test_rows_of_every_mark(self):
        self.agree(" >~=|\\[]^:-+aB", 4)

    def test_rows_that_any_two_signs_begin(self):
        signs = [chr(number) for number in range(32, 127) if chr(number) != "%"]
        for first, second in itertools.product(signs, repeat=2):
            for row in [first + second, first + second + " b", first + second + "a]: b", first + second + " |"]:
                self.assertEqual(sort_of(row), patterned(row), row)

    def test_rows_of_few_marks(self):
        self.agree(["=", " ", "a"], 7)
        self.agree(["|", "\\", " ", "a"], 6)
        self.agree(["~", " ", ">"], 7)
        self.agree(["-", "+", " ", "a"], 6)

    def test_rows_that_define(self):
        self.agree(["[", "^", "aB", "]: ", "]:", " ", "c"], 6)

    def test_names_of_every_length(self):
        for length in range(15):
            for row in [f"[{'aB' * 7}"[:length + 1] + "]: c", f"[^{'aB' * 7}"[:length + 2] + "]: c d"]:
                self.assertEqual(sort_of(row), patterned(row), row)


class Own(unittest.TestCase):
    """Point 1: what is told is the asker's own."""

    def test_told_texts_are_told_anew(self):
        first = sort_of("|a|b|")
        second = sort_of("|a|b|")
        first[1].append("c")
        first[1][0] = "d"
        self.assertEqual(second, ("cells", ["a", "b"]))
        self.assertEqual(sort_of("|a|b|"), ("cells", ["a", "b"]))

    def test_told_cells_have_nothing_of_another_row(self):
        first = sort_of("||")
        first[1].append("a")
        self.assertEqual(sort_of("| |"), ("cells", [""]))
        self.assertEqual(split_cells(""), [""])
