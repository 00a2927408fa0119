"""Points 1 to 3 and signs.py: texts, rows, names, words, texts between bars."""

import itertools
import string
import unittest

from lightmark.errors import BadName, BadText
from lightmark.signs import (
    cell_text, is_name, is_rule, joined, name_of, need_text, rows_of, split_cells, tidy, words_of)
from tests.things import no_texts

NAME_SIGNS = string.ascii_letters + string.digits
ALL_SIGNS = [chr(number) for number in range(32, 127) if chr(number) != "%"] + ["\n"]
OTHER_SIGNS = [sign for sign in ALL_SIGNS if sign not in NAME_SIGNS]
LONGEST = 200_000


def all_texts(signs, most):
    """Every text of these signs, up to so many of them."""
    for length in range(most + 1):
        for picked in itertools.product(signs, repeat=length):
            yield "".join(picked)


class Longest(unittest.TestCase):
    def same(self, told, asked):
        # Not assertEqual: of texts as long as these it would take very long to show what differs.
        self.assertTrue(told == asked)

    def test_texts(self):
        self.same(need_text("a" * LONGEST), "a" * LONGEST)

    def test_rows(self):
        self.same(rows_of("\n" * LONGEST), [""] * (LONGEST + 1))
        self.same(joined(rows_of("a\n" * (LONGEST // 2))), "a\n" * (LONGEST // 2))

    def test_words(self):
        self.same(tidy(" " * LONGEST), "")
        self.same(words_of("a " * (LONGEST // 2)), ["a"] * (LONGEST // 2))

    def test_cells(self):
        self.same(split_cells("|" * LONGEST), [""] * (LONGEST + 1))
        self.same(split_cells("\\|" * (LONGEST // 2)), ["|" * (LONGEST // 2)])
        self.same(split_cells("a" * LONGEST), ["a" * LONGEST])


class Refusing(unittest.TestCase):
    def refused_as(self, refusal, call, thing):
        # The class itself, not one under it: each refusal has its own.
        with self.assertRaises(refusal) as caught:
            call(thing)
        self.assertIs(type(caught.exception), refusal)


class NeedText(Refusing):
    def test_gives_the_text_back(self):
        for text in ["", " ", "a", "a\nb", "\n", "\n\n", "  a  b ", "".join(ALL_SIGNS)]:
            with self.subTest(text=text[:20]):
                self.assertEqual(need_text(text), text)
                self.assertIsInstance(need_text(text), str)

    def test_lets_every_sign_be(self):
        for sign in ALL_SIGNS:
            with self.subTest(sign=sign):
                self.assertEqual(need_text(sign), sign)

    def test_refuses_a_tab_wherever_it_stands(self):
        for text in ["\t", "\ta", "a\t", "a\tb", "a\n\tb", "a\n\t", "\t\t", " \t ", "a" * 1000 + "\t"]:
            with self.subTest(text=text[:20]):
                self.refused_as(BadText, need_text, text)

    def test_backslash_and_t_are_no_tab(self):
        self.assertEqual(need_text("\\t"), "\\t")

    def test_refuses_what_is_no_text(self):
        for place, thing in enumerate(no_texts()):
            with self.subTest(place=place, kind=type(thing).__name__):
                self.refused_as(BadText, need_text, thing)

    def test_changes_nothing_that_it_refuses(self):
        rows, told = ["a", "b"], {"a": "b"}
        self.refused_as(BadText, need_text, rows)
        self.refused_as(BadText, need_text, told)
        self.assertEqual((rows, told), (["a", "b"], {"a": "b"}))


class Rows(unittest.TestCase):
    def test_rows_of(self):
        for text, rows in [
            ("", [""]),
            ("a", ["a"]),
            (" ", [" "]),
            ("\n", ["", ""]),
            ("\n\n", ["", "", ""]),
            ("a\n", ["a", ""]),
            ("\na", ["", "a"]),
            ("\na\n", ["", "a", ""]),
            ("a\nb", ["a", "b"]),
            ("a\n\nb", ["a", "", "b"]),
            (" a \n  b  ", [" a ", "  b  "]),
            ("\\n", ["\\n"]),
        ]:
            with self.subTest(text=text):
                self.assertEqual(rows_of(text), rows)
                self.assertIsInstance(rows_of(text), list)

    def test_one_row_more_than_line_ends(self):
        for text in all_texts("a \n", 6):
            self.assertEqual(len(rows_of(text)), text.count("\n") + 1)

    def test_joined(self):
        for rows, text in [
            ([""], ""),
            (["a"], "a"),
            (["", ""], "\n"),
            (["a", ""], "a\n"),
            (["", "a"], "\na"),
            ([" a ", "", "b"], " a \n\nb"),
        ]:
            with self.subTest(rows=rows):
                self.assertEqual(joined(rows), text)

    def test_joined_is_the_way_back(self):
        for text in all_texts("a \n", 6):
            self.assertEqual(joined(rows_of(text)), text)
        for rows in itertools.product(["", "a", " b "], repeat=3):
            self.assertEqual(rows_of(joined(list(rows))), list(rows))


class Names(Refusing):
    def no_names(self):
        yield from ["", " ", "a b", " a", "a ", "\n", "a\n", "\na", "a\tb", "\t", "a" * 13, "a" * 14, "A1" * 7]
        yield from ["^a", "[a]", "a-b", "a_b", "_", "a.b", "a]", "a" * 12 + "\n", "a" * LONGEST]
        for length in [1, 2, 7, 12]:
            for place in range(length):
                for sign in OTHER_SIGNS:
                    yield "a" * place + sign + "a" * (length - place - 1)

    def test_each_letter_and_figure_is_a_name(self):
        for sign in NAME_SIGNS:
            with self.subTest(sign=sign):
                self.assertIs(is_name(sign), True)
                self.assertEqual(name_of(sign), sign.lower())

    def test_from_1_to_12_signs(self):
        for length in range(15):
            for sign in "aZ09":
                with self.subTest(length=length, sign=sign):
                    self.assertIs(is_name(sign * length), 1 <= length <= 12)

    def test_told_in_small_letters(self):
        for thing, name in [
            ("a", "a"), ("A", "a"), ("aB", "ab"), ("NOTE", "note"), ("7", "7"), ("0", "0"), ("A1b2C3", "a1b2c3"),
            ("ABCDEFGHIJKL", "abcdefghijkl"), ("MNOPQRSTUVWX", "mnopqrstuvwx"), ("YZ0123456789", "yz0123456789"),
        ]:
            with self.subTest(thing=thing):
                self.assertIs(is_name(thing), True)
                self.assertEqual(name_of(thing), name)
                self.assertEqual(name_of(name), name)

    def test_what_is_no_name(self):
        for text in self.no_names():
            with self.subTest(text=text[:20]):
                self.assertIs(is_name(text), False)
                self.refused_as(BadName, name_of, text)

    def test_what_is_no_text_is_no_name(self):
        for place, thing in enumerate(no_texts()):
            with self.subTest(place=place, kind=type(thing).__name__):
                self.assertIs(is_name(thing), False)
                self.refused_as(BadName, name_of, thing)


class Words(unittest.TestCase):
    def test_words_and_tidy(self):
        for text, words in [
            ("", []),
            (" ", []),
            ("     ", []),
            ("a", ["a"]),
            (" a", ["a"]),
            ("a ", ["a"]),
            ("    a    ", ["a"]),
            ("a b", ["a", "b"]),
            ("a     b", ["a", "b"]),
            ("   one   two three     ", ["one", "two", "three"]),
            ("\n", ["\n"]),
            ("a\nb", ["a\nb"]),
            ("a \n b", ["a", "\n", "b"]),
            ("\na  b\n", ["\na", "b\n"]),
            (" \n ", ["\n"]),
            ("a\\ b|c", ["a\\", "b|c"]),
        ]:
            with self.subTest(text=text):
                self.assertEqual(words_of(text), words)
                self.assertIsInstance(words_of(text), list)
                self.assertEqual(tidy(text), " ".join(words))

    def test_every_sign_but_the_blank_is_a_word(self):
        for sign in ALL_SIGNS[1:]:
            with self.subTest(sign=sign):
                self.assertEqual(words_of(f"  {sign}  "), [sign])
                self.assertEqual(tidy(f"  a  {sign}  b  "), f"a {sign} b")

    def test_tidy_keeps_all_signs_but_blanks(self):
        for text in all_texts("ab \n", 5):
            told = tidy(text)
            self.assertEqual(told.replace(" ", ""), text.replace(" ", ""))
            self.assertEqual(words_of(told), words_of(text))
            self.assertNotIn("  ", told)
            self.assertEqual(told, told.strip(" "))


def cells_sign_by_sign(text):
    """Point 3 once more, by walking the signs, to hold the program against."""
    pieces = [""]
    for place, sign in enumerate(text):
        if sign != "|":
            pieces[-1] += sign
        elif place > 0 and text[place - 1] == "\\":
            pieces[-1] = pieces[-1][:-1] + "|"
        else:
            pieces.append("")
    return [" ".join(piece.split()) for piece in pieces]


class Cells(unittest.TestCase):
    def test_split_cells(self):
        for text, texts in [
            ("", [""]),
            (" ", [""]),
            ("a", ["a"]),
            ("|", ["", ""]),
            ("||", ["", "", ""]),
            (" | ", ["", ""]),
            ("a|b", ["a", "b"]),
            ("|a", ["", "a"]),
            ("a|", ["a", ""]),
            ("a||b", ["a", "", "b"]),
            ("  a   b  |  c  ", ["a b", "c"]),
            ("\\|", ["|"]),
            ("a\\|b", ["a|b"]),
            ("a \\| b|c", ["a | b", "c"]),
            ("\\||", ["|", ""]),
            ("|\\|", ["", "|"]),
            ("\\|\\|", ["||"]),
            ("\\||\\|", ["|", "|"]),
            ("a\\\\|b", ["a\\|b"]),
            ("a\\\\\\|b", ["a\\\\|b"]),
            ("a\\\\||b", ["a\\|", "b"]),
            ("\\ |b", ["\\", "b"]),
            ("a\\ \\|b", ["a\\ |b"]),
            ("\\", ["\\"]),
            ("a\\", ["a\\"]),
            ("a|\\", ["a", "\\"]),
            ("\\a|b\\", ["\\a", "b\\"]),
            ("\\\\", ["\\\\"]),
        ]:
            with self.subTest(text=text):
                self.assertEqual(split_cells(text), texts)
                self.assertIsInstance(split_cells(text), list)

    def test_split_cells_sign_by_sign(self):
        for text in all_texts("|\\ a", 7):
            self.assertEqual(split_cells(text), cells_sign_by_sign(text))

    def test_cell_text(self):
        for text, escaped in [
            ("", ""),
            ("a", "a"),
            ("|", "\\|"),
            ("||", "\\|\\|"),
            ("a|b", "a\\|b"),
            ("\\|", "\\\\|"),
            ("\\", "\\"),
            ("  a | b  ", "  a \\| b  "),
        ]:
            with self.subTest(text=text):
                self.assertEqual(cell_text(text), escaped)

    def test_split_cells_is_the_way_back(self):
        for text in all_texts("|\\ a", 6):
            self.assertEqual(split_cells(cell_text(text)), [tidy(text)])

    def test_way_back_of_several_cells(self):
        cells = ["", "a", "|", "a|b", "\\", "\\|", "a\\", "|a b|"]
        for picked in itertools.product(cells, repeat=3):
            text = " | ".join([cell_text(cell) for cell in picked])
            self.assertEqual(split_cells(text), list(picked))


class Rules(unittest.TestCase):
    def test_rules(self):
        for text in ["-", "--", "---", "-:", "--:", "---:", "-" * 1000, "-" * 1000 + ":"]:
            with self.subTest(text=text[:20]):
                self.assertIs(is_rule(text), True)

    def test_no_rules(self):
        for text in [
            "", ":", "::", ":-", ":--", ":-:", "--::", "-:-", "--:-", "--:--", "- -", "- :", "--: :",
            " ", " -", "- ", "--: ", " --:", "a", "-a", "a-", "-a-", "--a:", "--:a", "+", "=", "_",
            "\\---", "---\n", "\n---", "|", "--|--",
        ]:
            with self.subTest(text=text):
                self.assertIs(is_rule(text), False)

    def test_every_sign_beside_a_dash(self):
        for sign in ALL_SIGNS:
            with self.subTest(sign=sign):
                self.assertIs(is_rule("-" + sign), sign in "-:")
                self.assertIs(is_rule(sign + "-"), sign == "-")

    def test_every_short_text(self):
        rules = ["-", "--", "---", "----", "-----", "-:", "--:", "---:", "----:"]
        for text in all_texts("-: a", 5):
            self.assertIs(is_rule(text), text in rules)


class Own(unittest.TestCase):
    """Point 1: what is told is the asker's own, what is handed in stays as it is."""

    def test_a_told_list_is_told_anew(self):
        for tell, text, told in [
            (rows_of, "a\nb", ["a", "b"]),
            (rows_of, "", [""]),
            (words_of, " a  b ", ["a", "b"]),
            (words_of, "", []),
            (split_cells, "a|b", ["a", "b"]),
            (split_cells, "", [""]),
        ]:
            with self.subTest(tell=tell.__name__, text=text):
                first = tell(text)
                second = tell(text)
                first.append("c")
                first[0] = "d"
                self.assertEqual(second, told)
                self.assertEqual(tell(text), told)

    def test_rows_handed_in_are_neither_changed_nor_kept(self):
        rows = ["a", "", "b"]
        text = joined(rows)
        self.assertEqual(rows, ["a", "", "b"])
        rows.append("c")
        self.assertEqual(text, "a\n\nb")
        self.assertEqual(joined(rows), "a\n\nb\nc")
