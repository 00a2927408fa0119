"""Points 1 and 13 and document.py: a document told, written and walked."""

import unittest

from lightmark.blocks import Heading, Literal, Para, Quote
from lightmark.document import Document
from lightmark.inline import parts_of
from tests import build
from tests.draws import draw, drawn_tree

A, B = [("plain", "a")], [("plain", "b")]


def para(words):
    return Para(parts_of(words))


class Documents(unittest.TestCase):
    def test_without_blocks(self):
        document = Document([])
        self.assertEqual((document.told(), document.written(), document.text()), ([], [""], ""))
        self.assertIsNone(document.walk(lambda block: self.fail("there is no block")))

    def test_with_blocks(self):
        document = Document([Heading(1, parts_of("a")), para("b"), Quote([para("- a")]), Literal(["", "c"])])
        self.assertEqual(document.told(), [
            ("heading", 1, A), ("para", B), ("quote", [("para", [("plain", "- a")])]), ("literal", ["", "c"])])
        rows = ["= a", "", "b", "", "> \\- a", "", "~~~", "", "c", "~~~"]
        self.assertEqual(document.written(), rows)
        self.assertEqual(document.text(), "\n".join(rows))
        self.assertIsInstance(document.told(), list)
        self.assertIsInstance(document.written(), list)

    def test_one_block(self):
        self.assertEqual(Document([para("a")]).text(), "a")
        self.assertEqual(Document([Quote([])]).text(), ">")
        self.assertEqual(Document([Literal([])]).text(), "~~~\n~~~")

    def test_walks_one_block_behind_the_other(self):
        blocks = [para("a"), Quote([para("b"), Quote([para("c")])]), Heading(1, parts_of("d"))]
        seen = []
        self.assertIsNone(Document(blocks).walk(seen.append))
        self.assertEqual([block.told()[0] for block in seen], ["para", "quote", "para", "quote", "para", "heading"])
        self.assertTrue(seen[0] is blocks[0] and seen[1] is blocks[1] and seen[5] is blocks[2])

    def test_a_worker_that_asks_the_document(self):
        document = Document([para("a"), Quote([para("b")])])
        seen = []

        def worker(block):
            document.told().clear()
            document.walk(lambda other: seen.append(other.told()[0]))
        document.walk(worker)
        self.assertEqual(seen, ["para", "quote", "para"] * 3)

    def test_drawn_trees(self):
        dice = draw("documents")
        for _ in range(300):
            told = drawn_tree(dice)
            document = Document(build.blocks(told))
            self.assertEqual(document.told(), told)
            self.assertEqual(document.text(), "\n".join(document.written()))


class Own(unittest.TestCase):
    """Point 1: what is told is the asker's own, what is handed in is neither changed nor kept."""

    def test_the_list_of_blocks_leaves_no_trace(self):
        blocks = [para("a")]
        document = Document(blocks)
        blocks.append(para("b"))
        blocks[0] = Literal(["c"])
        self.assertEqual(document.told(), [("para", A)])
        self.assertEqual(document.text(), "a")
        blocks.clear()
        self.assertEqual(document.written(), ["a"])

    def test_told_lists_are_told_anew(self):
        told = [("quote", [("literal", ["a"]), ("table", [A], ["left"], [[B]])]), ("list", [("-", A, [("+", B, [])])])]
        document = Document(build.blocks(told))
        text = document.text()
        first = document.told()
        first[0][1][0][1].append("x")
        first[0][1][1][1][0].clear()
        first[0][1][1][2].clear()
        first[0][1][1][3][0].clear()
        first[1][1][0][2].clear()
        first[1][1][0][1].clear()
        first[0][1].clear()
        first.clear()
        self.assertEqual(document.told(), told)
        document.written().clear()
        Document([]).written().append("x")
        self.assertEqual(document.text(), text)
        self.assertEqual(Document([]).written(), [""])
        self.assertEqual(Document([]).told(), [])
