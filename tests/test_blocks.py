"""Points 1 and 13 and blocks.py, lists.py and tables.py: blocks told and written."""

import unittest

from lightmark.blocks import Block, Heading, Literal, Naming, Noting, Para, Quote, rows_between
from lightmark.inline import parts_of
from lightmark.lists import Entry, Listing
from lightmark.parts import Code, Link, Mark, Plain, Strong, told_parts
from lightmark.sorts import sort_of
from lightmark.tables import Table
from tests import build
from tests.draws import draw, drawn_block, drawn_tree

CLASSES = [Heading, Para, Literal, Quote, Naming, Noting, Listing, Table]
A, B, C = [("plain", "a")], [("plain", "b")], [("plain", "c")]


def para(words):
    return Para(parts_of(words))


def one_of_each():
    return [
        Heading(2, [Plain("a")]), Para([Plain("b")]), Literal(["c"]), Quote([Para([Plain("d")])]), Naming("e", "f"),
        Noting("g", [Plain("h")]), Listing([Entry("-", [Plain("i")], [])]), Table([], [], [[[Plain("j")]]])]


class Classes(unittest.TestCase):
    def test_each_stands_straight_under_block(self):
        for kind in CLASSES:
            self.assertEqual(kind.__bases__, (Block,))
        for block, kind in zip(one_of_each(), CLASSES):
            self.assertEqual([isinstance(block, other) for other in CLASSES], [other is kind for other in CLASSES])
            self.assertIsInstance(block, Block)

    def test_an_entry_is_no_block(self):
        self.assertFalse(issubclass(Entry, Block))
        self.assertFalse(issubclass(Block, Entry))

    def test_what_an_object_holds(self):
        blocks = one_of_each()
        self.assertEqual((blocks[0].level, told_parts(blocks[0].parts), told_parts(blocks[1].parts)), (2, A, B))
        self.assertEqual((blocks[2].lines, blocks[4].name, blocks[4].target, blocks[5].name), (["c"], "e", "f", "g"))
        self.assertEqual(told_parts(blocks[5].parts), [("plain", "h")])
        self.assertIsInstance(blocks[3].blocks[0], Para)
        entry = blocks[6].entries[0]
        self.assertEqual((entry.sign, told_parts(entry.parts), entry.entries), ("-", [("plain", "i")], []))
        self.assertEqual((blocks[7].head, blocks[7].sides, len(blocks[7].lines)), ([], [], 1))


class BlockCase(unittest.TestCase):
    def check(self, pairs):
        for told, rows in pairs:
            with self.subTest(told=told):
                block = build.block(told)
                self.assertEqual(block.told(), told)
                self.assertIsInstance(block.told(), tuple)
                self.assertEqual(block.written(), rows)
                self.assertIsInstance(block.written(), list)


class Headings(BlockCase):
    def test_levels(self):
        self.check([
            (("heading", 1, A), ["= a"]),
            (("heading", 2, A), ["== a"]),
            (("heading", 3, A), ["=== a"]),
            (("heading", 1, [("plain", "= a")]), ["= = a"]),
            (("heading", 2, [("strong", B), ("plain", "*"), ("code", "c")]), ["== *b*\\*`c`"]),
            (("heading", 3, [("note", "a"), ("plain", ": b")]), ["=== [^a]\\: b"]),
        ])


class Paras(BlockCase):
    def test_plain_rows(self):
        self.check([(("para", [("plain", signs)]), [signs]) for signs in [
            "a", "a b", "|", "| a", "a |", "-", "---", "-a", "+", "=", "=a", "==== a", "~", "~~", "~~~~", "~~~ a", "<", "^",
            ": a", "|a b", "--:", "1. a", "a > b"]])
        self.check([
            (("para", [("note", "a")]), ["[^a]"]),
            (("para", [("link", "a", "b")]), ["[a](b)"]),
            (("para", [("link", "a", "b"), ("plain", ": c")]), ["[a](b): c"]),
            (("para", [("code", "> a")]), ["`> a`"]),
            (("para", [("strong", [("plain", "- a")])]), ["*- a*"]),
            (("para", [("plain", "[a]: b")]), ["\\[a\\]: b"]),
            (("para", [("plain", "\\")]), ["\\\\"]),
            (("para", [("plain", "a "), ("code", "b")]), ["a `b`"]),
        ])

    def test_rows_that_would_be_of_another_sort(self):
        for signs, sort in [
            (">", "quote"), ("> a", "quote"), (">a", "quote"), (">> a", "quote"), ("~~~", "fence"), ("= a", "heading"),
            ("== a", "heading"), ("=== a b", "heading"), ("||", "cells"), ("| a |", "cells"), ("|a|b|", "cells"),
            ("| |", "cells"), ("- a", "item"), ("+ a b", "item"), ("- -", "item"),
        ]:
            self.assertEqual(sort_of(signs)[0], sort)
            self.check([(("para", [("plain", signs)]), ["\\" + signs])])
        self.check([
            (("para", [("plain", "> "), ("strong", A)]), ["\\> *a*"]),
            (("para", [("plain", "- "), ("code", "a")]), ["\\- `a`"]),
            (("para", [("plain", "|"), ("link", "a", "b"), ("plain", "|")]), ["\\|[a](b)|"]),
            (("para", [("plain", "|"), ("code", "a"), ("plain", "\\|")]), ["|`a`\\\\|"]),
        ])

    def test_a_mark_and_a_colon_are_no_note(self):
        self.check([
            (("para", [("note", "a"), ("plain", ": b")]), ["[^a]\\: b"]),
            (("para", [("note", "a"), ("plain", ":")]), ["[^a]\\:"]),
        ])

    def test_every_drawn_paragraph_is_read_as_a_plain_row(self):
        dice = draw("paras")
        for _ in range(5000):
            told = drawn_block(dice)
            if told[0] == "para":
                row = build.block(told).written()
                self.assertEqual(len(row), 1)
                self.assertEqual(sort_of(row[0])[0:2], ("plain", 0))
                self.assertEqual(told_parts(parts_of(sort_of(row[0])[2])), told[1])


class Lists(BlockCase):
    def test_one_list(self):
        self.check([
            (("list", [("-", A, [])]), ["- a"]),
            (("list", [("+", A, [])]), ["+ a"]),
            (("list", [("-", A, []), ("+", B, []), ("-", C, [])]), ["- a", "+ b", "- c"]),
            (("list", [("-", [("plain", "- a")], [])]), ["- - a"]),
            (("list", [("-", [("plain", "*"), ("strong", A)], [])]), ["- \\**a*"]),
            (("list", [("+", [("note", "a"), ("plain", ": b")], [])]), ["+ [^a]\\: b"]),
        ])

    def test_lists_in_lists(self):
        self.check([
            (("list", [("-", A, [("+", B, [])])]), ["- a", "  + b"]),
            (("list", [("-", A, [("+", B, [("-", C, [])]), ("-", C, [])]), ("+", A, [("+", B, [])])]),
             ["- a", "  + b", "    - c", "  - c", "+ a", "  + b"]),
        ])

    def test_six_within_each_other(self):
        entries = []
        for sign in "-+-+-+":
            entries = [(sign, A, entries)]
        rows = ["+ a", "  - a", "    + a", "      - a", "        + a", "          - a"]
        self.check([(("list", entries), rows)])

    def test_told_of_an_entry(self):
        entry = Entry("+", [Plain("a")], [Entry("-", [Code("b")], [])])
        self.assertEqual(entry.told(), ("+", A, [("-", [("code", "b")], [])]))
        self.assertIsInstance(entry.told(), tuple)
        self.assertIsInstance(entry.told()[2], list)
        self.assertIsInstance(entry.told()[2][0], tuple)


class Tables(BlockCase):
    def test_without_a_head(self):
        self.check([
            (("table", [], [], [[A]]), ["| a |"]),
            (("table", [], [], [[A, B], [C, A]]), ["| a | b |", "| c | a |"]),
            (("table", [], [], [[[]]]), ["| |"]),
            (("table", [], [], [[[], []]]), ["| | |"]),
            (("table", [], [], [[A, []], [[], B]]), ["| a | |", "| | b |"]),
        ])

    def test_with_a_head(self):
        self.check([
            (("table", [A], ["left"], []), ["| a |", "| --- |"]),
            (("table", [A], ["right"], []), ["| a |", "| --: |"]),
            (("table", [A, B], ["right", "left"], [[C, []]]), ["| a | b |", "| --: | --- |", "| c | |"]),
            (("table", [[], []], ["left", "right"], [[A, B]]), ["| | |", "| --- | --: |", "| a | b |"]),
            (("table", [[]], ["left"], [[[]]]), ["| |", "| --- |", "| |"]),
        ])

    def test_cells_that_are_rules(self):
        def rule(signs):
            return [("plain", signs)]
        self.check([
            (("table", [], [], [[rule("-")]]), ["| \\- |"]),
            (("table", [], [], [[rule("---"), rule("--:")], [rule("-:"), A]]), ["| \\--- | \\--: |", "| \\-: | a |"]),
            (("table", [rule("---")], ["left"], [[rule("---")]]), ["| \\--- |", "| --- |", "| \\--- |"]),
            (("table", [], [], [[rule(":"), rule("- -"), rule("-:-"), rule("--a")]]), ["| : | - - | -:- | --a |"]),
            (("table", [], [], [[[("code", "---")], [("strong", rule("---"))]]]), ["| `---` | *---* |"]),
        ])

    def test_bars_in_cells(self):
        self.check([
            (("table", [], [], [[[("plain", "|")]]]), ["| \\| |"]),
            (("table", [], [], [[[("plain", "a|b|")], [("code", "|")]]]), ["| a\\|b\\| | `\\|` |"]),
            (("table", [], [], [[[("plain", "\\|")]]]), ["| \\\\\\| |"]),
            (("table", [], [], [[[("code", "\\|")]]]), ["| `\\\\|` |"]),
            (("table", [], [], [[[("plain", "a\\")]]]), ["| a\\\\ |"]),
            (("table", [[("link", "a|", "b")]], ["left"], [[[("strong", [("plain", "|")])]]]),
             ["| [a\\|](b) |", "| --- |", "| *\\|* |"]),
        ])


class Literals(BlockCase):
    def test_lines(self):
        self.check([
            (("literal", []), ["~~~", "~~~"]),
            (("literal", [""]), ["~~~", "", "~~~"]),
            (("literal", ["a"]), ["~~~", "a", "~~~"]),
            (("literal", ["", "", ""]), ["~~~", "", "", "", "~~~"]),
            (("literal", ["> a", "= b", "- c", "| d |", "[e]: f", "[^g]: h", "  i  ", "\\", "*", " ~~~", "~~~~", "~~~ a"]),
             ["~~~", "> a", "= b", "- c", "| d |", "[e]: f", "[^g]: h", "  i  ", "\\", "*", " ~~~", "~~~~", "~~~ a", "~~~"]),
        ])


class Quotes(BlockCase):
    def test_quotes(self):
        self.check([
            (("quote", []), [">"]),
            (("quote", [("para", A)]), ["> a"]),
            (("quote", [("para", A), ("para", B)]), ["> a", ">", "> b"]),
            (("quote", [("heading", 1, A), ("list", [("-", B, [("-", C, [])])])]), ["> = a", ">", "> - b", ">   - c"]),
            (("quote", [("para", [("plain", "> a")])]), ["> \\> a"]),
            (("quote", [("name", "a", "b"), ("note", "c", A)]), ["> [a]: b", ">", "> [^c]: a"]),
        ])

    def test_rows_without_signs_in_them(self):
        self.check([
            (("quote", [("literal", ["", " ", "a", "  "])]), ["> ~~~", ">", ">  ", "> a", ">   ", "> ~~~"]),
            (("quote", [("literal", [])]), ["> ~~~", "> ~~~"]),
        ])

    def test_quotes_in_quotes_to_four(self):
        told, rows = ("para", A), ["a"]
        for _ in range(4):
            told, rows = ("quote", [told]), ["> " + row for row in rows]
            self.check([(told, rows)])
        told, rows = ("quote", []), [">"]
        for _ in range(3):
            told, rows = ("quote", [told]), ["> " + row for row in rows]
            self.check([(told, rows)])
        self.check([
            (("quote", [("quote", []), ("quote", [("para", A), ("para", B)])]), ["> >", ">", "> > a", "> >", "> > b"]),
        ])


class Definitions(BlockCase):
    def test_names(self):
        self.check([
            (("name", "a", "b"), ["[a]: b"]),
            (("name", "abcdefghijkl", "http://x.y/z*[]"), ["[abcdefghijkl]: http://x.y/z*[]"]),
            (("name", "7", "\\|"), ["[7]: \\|"]),
        ])

    def test_notes(self):
        self.check([
            (("note", "a", B), ["[^a]: b"]),
            (("note", "n1", [("strong", A), ("plain", " ]: *")]), ["[^n1]: *a* \\]: \\*"]),
            (("note", "a", [("note", "b"), ("plain", ":")]), ["[^a]: [^b]\\:"]),
        ])


class Between(unittest.TestCase):
    def test_rows_between(self):
        self.assertEqual(rows_between([]), [])
        self.assertEqual(rows_between([para("a")]), ["a"])
        self.assertEqual(rows_between([para("a"), para("b")]), ["a", "", "b"])
        blocks = [Heading(1, [Plain("a")]), Literal([""]), Listing([Entry("-", [Plain("b")], [])] * 2), Quote([]), para("c")]
        self.assertEqual(
            rows_between(blocks), ["= a", "", "~~~", "", "~~~", "", "- b", "- b", "", ">", "", "c"])
        self.assertIsInstance(rows_between(blocks), list)

    def test_drawn_blocks(self):
        dice = draw("between")
        for _ in range(300):
            blocks = build.blocks(drawn_tree(dice))
            asked = []
            for block in blocks:
                asked += ([""] if asked else []) + block.written()
            self.assertEqual(rows_between(blocks), asked)


class Texts(unittest.TestCase):
    def check(self, block, told):
        texts = block.texts()
        self.assertIsInstance(texts, list)
        self.assertTrue(all(isinstance(parts, list) for parts in texts))
        self.assertEqual([told_parts(parts) for parts in texts], told)

    def test_blocks_of_one_text(self):
        parts = [Plain("a"), Strong([Mark("b"), Link("c", "d")])]
        for block in [Heading(1, parts), Para(parts), Noting("e", parts)]:
            self.check(block, [told_parts(parts)])

    def test_blocks_without_any(self):
        for block in [Literal(["a"]), Quote([para("a")]), Naming("a", "b"), Quote([]), Literal([])]:
            self.check(block, [])

    def test_each_entry_ahead_of_its_own_entries(self):
        told = ("list", [("-", A, [("+", B, [("-", C, [])]), ("-", A, [])]), ("+", B, []), ("-", C, [("-", B, [])])])
        self.check(build.block(told), [A, B, C, A, B, C, B])

    def test_the_head_and_then_line_by_line(self):
        self.check(build.block(("table", [A, []], ["left", "left"], [[B, C], [[], A]])), [A, [], B, C, [], A])
        self.check(build.block(("table", [], [], [[[], A], [B, []]])), [[], A, B, []])
        self.check(build.block(("table", [A, B], ["left", "right"], [])), [A, B])


class Walks(unittest.TestCase):
    def walked(self, block):
        seen = []
        self.assertIsNone(block.walk(seen.append))
        return seen

    def test_blocks_without_blocks(self):
        for block in one_of_each():
            if not isinstance(block, Quote):
                seen = self.walked(block)
                self.assertEqual(len(seen), 1)
                self.assertIs(seen[0], block)

    def test_the_block_and_then_those_within_it(self):
        told = ("quote", [
            ("para", A), ("quote", [("quote", []), ("heading", 1, B)]), ("list", [("-", A, [("-", B, [])])]),
            ("quote", [("note", "c", C)]), ("literal", [])])
        block = build.block(told)
        seen = self.walked(block)
        self.assertIs(seen[0], block)
        self.assertEqual([one.told()[0] for one in seen], [
            "quote", "para", "quote", "quote", "heading", "list", "quote", "note", "literal"])
        self.assertEqual([one.told() for one in seen[1:3]], told[1][:2])
        self.assertTrue(all(isinstance(one, Block) for one in seen))

    def test_a_worker_that_asks_the_blocks(self):
        block = build.block(("quote", [("para", A), ("quote", [("para", B)])]))
        rows, inner = [], []

        def worker(one):
            rows.append(one.written())
            one.walk(lambda other: inner.append(other.told()[0]))
            one.texts().clear()
            one.written().clear()
        self.assertIsNone(block.walk(worker))
        self.assertEqual(rows, [["> a", ">", "> > b"], ["a"], ["> b"], ["b"]])
        self.assertEqual(inner, ["quote", "para", "quote", "para", "para", "quote", "para", "para"])
        self.assertEqual(block.written(), ["> a", ">", "> > b"])

    def test_what_the_worker_gives_is_not_looked_at(self):
        for given in [True, False, None, 1]:
            seen = []
            build.block(("quote", [("para", A)])).walk(lambda one: (seen.append(one), given)[1])
            self.assertEqual(len(seen), 2)


def spoil(thing):
    """Changes a list, and all lists within it."""
    if isinstance(thing, (list, tuple)):
        for inner in list(thing):
            spoil(inner)
    if isinstance(thing, list):
        thing.append("spoilt")
        thing[0] = "spoilt"


class Own(unittest.TestCase):
    """Point 1: what is told is the asker's own, what is handed in is neither changed nor kept."""

    def answers(self, block):
        seen = []
        block.walk(lambda one: seen.append(one.told()))
        return (block.told(), block.written(), [told_parts(parts) for parts in block.texts()], seen)

    def test_what_is_told_is_told_anew(self):
        dice = draw("own")
        for _ in range(500):
            told = drawn_block(dice)
            block = build.block(told)
            asked = self.answers(build.block(told))
            kept = self.answers(block)
            for spoilt in [block.told(), block.written(), block.texts()]:
                spoil(spoilt)
                self.assertEqual(self.answers(block), asked)
            self.assertEqual(kept, asked)

    def test_told_of_an_entry_is_told_anew(self):
        entry = Entry("-", [Strong([Plain("a")])], [Entry("+", [Plain("b")], [])])
        asked = ("-", [("strong", A)], [("+", B, [])])
        spoil(entry.told())
        self.assertEqual(entry.told(), asked)

    def test_rows_between_are_told_anew(self):
        blocks = [para("a"), Literal(["b"])]
        spoil(rows_between(blocks))
        self.assertEqual(rows_between(blocks), ["a", "", "~~~", "b", "~~~"])
        self.assertEqual(len(blocks), 2)

    def handed(self):
        """Pairs of a block and the list that was handed in to make it."""
        def cell():
            return [Plain("a")]
        yield (lambda given: Heading(1, given)), [Plain("a")]
        yield Para, [Plain("a")]
        yield (lambda given: Noting("b", given)), [Plain("a")]
        yield Literal, ["a", "b"]
        yield Quote, [para("a"), para("b")]
        yield Listing, [Entry("-", [Plain("a")], [])]
        yield (lambda given: Listing([Entry("-", given, [])])), [Plain("a")]
        yield (lambda given: Listing([Entry("-", [Plain("b")], given)])), [Entry("-", [Plain("a")], [])]
        yield (lambda given: Table(given, ["left", "right"], [])), [cell(), cell()]
        yield (lambda given: Table([cell(), cell()], given, [])), ["left", "right"]
        yield (lambda given: Table([], [], given)), [[cell(), cell()], [cell(), cell()]]
        yield (lambda given: Table([cell()], ["left"], given)), [[cell()]]

    def test_what_is_handed_in_is_neither_changed_nor_kept(self):
        for make, given in self.handed():
            before = repr(given)
            block = make(given)
            asked = self.answers(block)
            with self.subTest(told=asked[0]):
                self.assertEqual(repr(given), before)
                spoil(given)
                self.assertEqual(self.answers(block), asked)

    def test_the_parts_of_a_cell_alone_are_changed(self):
        cell = [Plain("a")]
        table = Table([cell], ["left"], [[cell]])
        cell.append(Mark("b"))
        self.assertEqual(table.told(), ("table", [A], ["left"], [[A]]))
        self.assertEqual(table.written(), ["| a |", "| --- |", "| a |"])
        self.assertEqual([told_parts(parts) for parts in table.texts()], [A, A])

    def test_blocks_told_within_a_quote_are_not_kept(self):
        inner = [para("a")]
        quote = Quote(inner)
        outer = [quote]
        whole = Quote(outer)
        inner.append(para("b"))
        outer.append(para("c"))
        self.assertEqual(whole.told(), ("quote", [("quote", [("para", A)])]))
