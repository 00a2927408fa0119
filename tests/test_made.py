"""Points 1, 9, 13 and 15 and made.py: documents made of trees, and what is refused."""

import unittest

from lightmark.document import Document
from lightmark.errors import BadTree
from lightmark.made import made
from lightmark.reader import read
from tests.draws import draw, drawn_tree
from tests.things import no_texts

A, B = [("plain", "a")], [("plain", "b")]
WRONG_PARTS = [
    [("plain", "")], [("plain", " a")], [("plain", "a ")], [("plain", "a  b")], [("plain", "a\tb")], [("plain", "a\nb")], A + B,
    [("code", "`")], [("code", "")], [("link", "a", "B")], [("link", "", "a")], [("note", "A")], [("note", "")], [("strong", [])],
    [("strong", [("strong", A)])], [("strong", A + B)], [("plain",)], [("plain", "a", "b")], [["plain", "a"]], ["a"], [()], [[]],
    [("plain", True)], [("note", None)], [A], ("plain", "a"), ("a",), "a", "", (), None, 0, True, {}, {"plain": "a"}, ["plain", "a"],
]


def entries(count, inner=()):
    """So many entries within each other."""
    told = list(inner)
    for _ in range(count):
        told = [("-", A, told)]
    return told


def quotes(count, inner):
    told = inner
    for _ in range(count):
        told = ("quote", [told])
    return told


def right_blocks():
    yield from [("heading", level, A) for level in [1, 2, 3]]
    yield ("heading", 1, [("note", "a"), ("plain", ":")])
    yield from [("para", A), ("para", [("strong", [("plain", " ")])]), ("para", [("plain", "> a")])]
    yield from [("list", entries(count)) for count in range(1, 7)]
    yield ("list", [("-", A, [("+", B, []), ("-", A, [])]), ("+", B, [])])
    yield from [("table", [A], ["left"], []), ("table", [A], ["right"], []), ("table", [], [], [[A]]), ("table", [], [], [[[]]])]
    yield ("table", [A, []], ["right", "left"], [[[], B], [A, A]])
    yield ("table", [[]], ["left"], [[[]], [[]]])
    yield ("table", [], [], [[A, B, []], [[], [], []]])
    yield from [("literal", []), ("literal", [""]), ("literal", ["~~~ a", "~~~x", " ~~~", "~~", "~~~~", "> ", "  "])]
    yield from [("quote", []), ("quote", [("para", A), ("quote", []), ("para", B)])]
    yield from [quotes(count, ("para", A)) for count in range(1, 5)]
    yield from [quotes(count, ("quote", [])) for count in range(1, 4)]
    yield from [("name", "a", "b"), ("name", "abcdefghijkl", "]:"), ("name", "0", "|*")]
    yield from [("note", "a", B), ("note", "abcdefghijkl", [("note", "a"), ("plain", ": b")])]


def wrong_blocks():
    for parts in WRONG_PARTS + [[]]:
        yield from [("heading", 1, parts), ("para", parts), ("note", "a", parts), ("list", [("-", parts, [])])]
        yield from [("list", [("-", A, [("+", parts, [])])]), ("list", [("-", A, []), ("-", parts, [])])]
    for parts in WRONG_PARTS:
        yield from [("table", [parts], ["left"], []), ("table", [], [], [[parts]]), ("table", [A], ["left"], [[parts]])]
        yield from [("table", [], [], [[A], [parts]]), ("table", [], [], [[A, parts]])]
    yield from [("heading", level, A) for level in [0, 4, -1, 10 ** 9, True, False, None, "1", "", 1.0, 2.5, [1], (1,)]]
    yield from [("heading",), ("heading", 1), ("heading", A, 1), ("heading", 1, A, A), ["heading", 1, A]]
    yield from [("para",), ("para", A, A), ["para", A], ("Para", A), ("paragraph", A), ("para", 1, A)]
    yield from wrong_lists()
    yield from wrong_tables()
    yield from [("literal",), ("literal", [], []), ["literal", []], ("literal", "a"), ("literal", ("a",)), ("literal", None)]
    yield from [("literal", ["a", line]) for line in ["~~~", "~~~ ", "~~~    ", "\n", "a\nb", "\t", "a\tb", None, 1, True, [], ("a",)]]
    yield from [("literal", [b"a"]), ("literal", {"a": "b"}), ("literal", [["a"]])]
    yield from [("quote",), ("quote", [], []), ["quote", []], ("quote", ()), ("quote", "a"), ("quote", None), ("quote", ("para", A))]
    yield from [("quote", [None]), ("quote", [[]]), ("quote", [()]), ("quote", A), ("quote", [["para", A]])]
    yield from [quotes(5, ("para", A)), quotes(4, ("quote", [])), quotes(9, ("para", A)), quotes(50, ("quote", []))]
    for name in ["", "A", "aB", "a b", " a", "a-", "abcdefghijklm", "a\n", None, 1, True, [], ("a",), ["a"]]:
        yield from [("name", name, "b"), ("note", name, B)]
    for target in ["", " ", "a b", " a", "a ", "a\nb", "\n", "a\tb", "\t", None, 1, True, [], ["a"], ("a",), A]:
        yield ("name", "a", target)
    yield from [("name",), ("name", "a"), ("name", "a", "b", "c"), ["name", "a", "b"]]
    yield from [("note",), ("note", "a"), ("note", "a", B, B), ["note", "a", B]]
    yield from [(), [], ("",), ("a",), ("plain", "a"), ("code", "a"), ("link", "a", "b"), ("strong", A), ("-", A, []), "para", ""]
    yield from [read("a"), read("a").blocks[0], ("quote", read("a").blocks), (("para", A),), [("para", A)], ("entry", "-", A, [])]


def wrong_lists():
    yield from [("list",), ("list", []), ("list", (),), ("list", entries(1), []), ["list", entries(1)], ("list", "a"), ("list", None)]
    yield from [("list", entries(7)), ("list", entries(8)), ("list", entries(50)), ("list", [("-", A, []), ("+", A, entries(6))])]
    for sign in ["", "*", "- ", "--", "-+", "+-", None, 1, True, ["-"], ("-",), 0]:
        yield from [("list", [(sign, A, [])]), ("list", [("-", A, [(sign, A, [])])])]
    for within in [(), None, "", "a", 0, False, {}, ("-", A, []), (("-", A, []),), [[]], [()], [None], ["-"], [A], [["-", A, []]]]:
        yield from [("list", [("-", A, within)]), ("list", [("-", A, [("-", A, within)])]), ("list", within)]
    for entry in [("-",), ("-", A), ("-", A, [], []), ["-", A, []], ("-", [], A), (A, "-", []), {"-": A}]:
        yield from [("list", [entry]), ("list", [("-", A, []), entry]), ("list", [("-", A, [entry])])]


def wrong_tables():
    yield from [("table",), ("table", []), ("table", [], []), ("table", [], [], [[A]], []), ["table", [], [], [[A]]]]
    yield from [("table", [], [], []), ("table", [], [], [[]]), ("table", [], [], [[], []]), ("table", [], [], [[], [A]])]
    yield from [("table", [], [], [[A], []]), ("table", [], [], [[A], [A, A]]), ("table", [], [], [[A, A], [A]])]
    yield from [("table", [A], ["left"], [[]]), ("table", [A], ["left"], [[A, A]]), ("table", [A, A], ["left"] * 2, [[A, A], [A]])]
    yield from [("table", [A], [], []), ("table", [A], ["left", "left"], []), ("table", [A, A], ["left"], [[A, A]])]
    yield from [("table", [], ["left"], [[A]]), ("table", [], ["left"], []), ("table", [], [], A), ("table", A, ["left"], [])]
    for side in ["", "Left", "LEFT", "centre", "l", "left ", None, 1, True, ["left"], ("left",), b"left"]:
        yield from [("table", [A], [side], []), ("table", [A, A], ["left", side], [])]
    for thing in [(), None, "", "a", 0, False, {}, (A,), ([A],), {"a": A}, ("left",)]:
        yield from [("table", thing, [], [[A]]), ("table", [A], thing, [[A]]), ("table", [A], ["left"], thing)]
        yield from [("table", [], [], [thing]), ("table", [A], ["left"], [[A], thing]), ("table", [], thing, [[A]])]


class Making(unittest.TestCase):
    def test_right_trees(self):
        for block in right_blocks():
            with self.subTest(block=block):
                for told in [[block], [block, block], [("para", A), block, ("heading", 1, B)]]:
                    document = made(told)
                    self.assertIsInstance(document, Document)
                    self.assertEqual(document.told(), told)
                    self.assertEqual(read(document.text()).told(), told)

    def test_no_blocks(self):
        self.assertEqual((made([]).told(), made([]).text()), ([], ""))

    def test_texts(self):
        told = [("heading", 2, A), ("list", entries(2)), ("table", [A], ["right"], [[[]]]), ("quote", [("name", "a", "b")])]
        self.assertEqual(made(told).text(), "== a\n\n- a\n  - a\n\n| a |\n| --: |\n| |\n\n> [a]: b")

    def test_drawn_trees(self):
        dice = draw("made")
        for _ in range(2000):
            told = drawn_tree(dice)
            self.assertEqual(made(told).told(), told)


class Refusing(unittest.TestCase):
    def refuse(self, told):
        # The class itself, not one under it: each refusal has its own.
        with self.assertRaises(BadTree) as caught:
            made(told)
        self.assertIs(type(caught.exception), BadTree)

    def test_refuses_what_points_9_and_13_do_not_let_be(self):
        for block in wrong_blocks():
            with self.subTest(block=repr(block)[:200]):
                self.refuse([block])
                self.refuse([("para", A), block])
                self.refuse([block, ("para", A)])
                for deep in range(1, 5):
                    self.refuse([quotes(deep, block)])
                self.refuse([("quote", [("para", A), block, ("literal", [])])])

    def test_refuses_whatever_is_no_list(self):
        for block in right_blocks():
            self.refuse(block)
            self.refuse((block,))
            self.refuse([[block]])
            self.refuse([(block,)])
            self.refuse({0: block})
            self.refuse(iter([block]))
        for text in ["", "a", "para"]:
            self.refuse(text)
            self.refuse([text])

    def test_refuses_things_of_every_kind(self):
        for number, one in enumerate(no_texts()):
            def thing():
                return no_texts()[number]
            with self.subTest(number=number, kind=type(one).__name__):
                if not isinstance(one, list):
                    self.refuse([("literal", thing())])
                if not (isinstance(one, list) and one == []):
                    self.refuse(thing())
                    self.refuse([("quote", thing())])
                    self.refuse([("list", [("-", A, thing())])])
                    self.refuse([("table", [], thing(), [[A]])])
                    self.refuse([("table", [A], ["left"], thing())])
                    self.refuse([("table", [], [], [[thing()]])])
                for told in [
                    [thing()], [("quote", [thing()])], [(thing(), A)], [(thing(),)], [("para", thing())], [("heading", 1, thing())],
                    [("list", thing())], [("list", [thing()])], [("list", [(thing(), A, [])])], [("list", [("-", thing(), [])])],
                    [("table", thing(), ["left"], [])], [("table", [A], [thing()], [])], [("table", [], [], [thing()])],
                    [("literal", [thing()])], [("name", thing(), "a")], [("name", "a", thing())], [("note", thing(), A)],
                    [("note", "a", thing())], [("table", [A], thing(), [])],
                ]:
                    self.refuse(told)
                if not (isinstance(one, int) and not isinstance(one, bool) and one == 1):
                    self.refuse([("heading", thing(), A)])

    def test_refuses_drawn_trees_with_one_thing_wrong(self):
        dice = draw("made wrong")
        wrong = [block for block in wrong_blocks()]
        for _ in range(3000):
            told = drawn_tree(dice)
            lists = [told]

            def gather(blocks):
                for block in blocks:
                    if block[0] == "quote":
                        lists.append(block[1])
                        gather(block[1])
            gather(told)
            into = dice.choice(lists)
            into.insert(dice.randint(0, len(into)), dice.choice(wrong))
            self.refuse(told)


class Own(unittest.TestCase):
    """Point 1: what is told is the asker's own, what is handed in is neither changed nor kept."""

    def test_what_is_handed_in_is_neither_changed_nor_kept(self):
        parts, lines, inner, cells, sides = [("plain", "a")], ["b"], [("-", [("plain", "c")], [])], [[("plain", "d")]], ["left"]
        blocks = [("para", parts), ("literal", lines)]
        told = [("quote", blocks), ("list", [("+", parts, inner)]), ("table", cells, sides, [cells])]
        document = made(told)
        before = repr(told)
        asked, text = document.told(), document.text()
        self.assertEqual(asked, told)
        self.assertEqual(repr(told), before)
        for given in [parts, lines, inner, cells[0], cells, sides, blocks, told]:
            given.append("spoilt")
            given[0] = "spoilt"
        self.assertEqual(document.told(), asked)
        self.assertEqual(document.text(), text)

    def test_what_is_refused_is_not_changed(self):
        told = [("para", A), ("quote", [("literal", ["~~~"])])]
        with self.assertRaises(BadTree):
            made(told)
        self.assertEqual(told, [("para", [("plain", "a")]), ("quote", [("literal", ["~~~"])])])
