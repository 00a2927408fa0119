"""Points 1, 16 and 17 and joins.py: what counts, what is used, what lacks."""

import unittest

from lightmark.errors import BadName
from lightmark.joins import Joined
from lightmark.reader import read
from tests.draws import draw, drawn_marked_text, drawn_tree
from lightmark.made import made
from tests.things import no_texts


def joins(*rows):
    return Joined(read("\n".join(rows)))


def plain(words):
    return [("plain", words)]


class Definitions(unittest.TestCase):
    def test_none(self):
        none = joins("")
        self.assertEqual((none.numbered(), none.lacks(), none.twice(), none.spare()), ([], [], [], []))
        self.assertIsNone(none.goes("a"))
        self.assertIsNone(none.number("a"))

    def test_the_first_counts(self):
        told = joins("[a]: one", "[a]: two", "[A]: three", "[^a]: four", "[^a]: five", "[b]: six")
        self.assertEqual((told.goes("a"), told.goes("b")), ("one", "six"))
        self.assertEqual(told.words_at("a"), plain("four"))
        self.assertEqual(told.twice(), [("link", "a"), ("link", "a"), ("note", "a")])

    def test_those_in_quotes_count_too(self):
        told = joins("> [a]: one", "> > [b]: two", "> > [^n]: three", "", "[a]: four", "[^n]: five", "[c]: six")
        self.assertEqual([told.goes(name) for name in "abc"], ["one", "two", "six"])
        self.assertEqual(told.words_at("n"), plain("three"))
        self.assertEqual(told.twice(), [("link", "a"), ("note", "n")])
        told = joins("[a]: one", "> [a]: two", ">> [^a]: three", "[^a]: four")
        self.assertEqual((told.goes("a"), told.words_at("a")), ("one", plain("three")))
        self.assertEqual(told.twice(), [("link", "a"), ("note", "a")])

    def test_links_and_notes_of_one_name_are_two(self):
        told = joins("[x](a)[^a]", "[a]: one", "[^a]: two")
        self.assertEqual((told.goes("a"), told.number("a"), told.words_at("a")), ("one", 1, plain("two")))
        self.assertEqual((told.lacks(), told.twice(), told.spare()), ([], [], []))
        told = joins("[x](a)", "[^a]: two")
        self.assertEqual((told.lacks(), told.spare()), ([("link", "a")], [("note", "a")]))
        told = joins("[^a]", "[a]: one")
        self.assertEqual((told.lacks(), told.spare()), ([("note", "a")], [("link", "a")]))

    def test_all_in_the_order_of_the_text(self):
        told = joins("[b]: x", "[^c]: x", "[a]: x", "> [a]: x", "> [^c]: x", "[^a]: x", "[b]: x", "[b]: x")
        self.assertEqual(told.twice(), [("link", "a"), ("note", "c"), ("link", "b"), ("link", "b")])
        self.assertEqual(told.spare(), [("link", "b"), ("note", "c"), ("link", "a"), ("note", "a")])

    def test_what_is_no_definition(self):
        told = joins("~~~", "[a]: b", "~~~", "- [a]: b", "| [a]: b |", "x", "[a]: b c")
        self.assertIsNone(told.goes("a"))
        self.assertEqual(told.spare(), [])


class Uses(unittest.TestCase):
    def test_behind_and_ahead_of_their_definitions(self):
        told = joins("[^a]: one", "[b]: two", "[^a][x](b)[^c][y](d)", "[^c]: three", "[d]: four")
        self.assertEqual((told.numbered(), told.lacks(), told.spare()), (["a", "c"], [], []))

    def test_numbers_as_first_used(self):
        told = joins("[^c] [^a] [^c] [^b] [^a]", "[^a]: x", "[^b]: x", "[^c]: x", "[^d]: x")
        self.assertEqual(told.numbered(), ["c", "a", "b"])
        self.assertEqual([told.number(name) for name in "abcd"], [2, 3, 1, None])
        self.assertEqual(told.spare(), [("note", "d")])

    def test_in_every_block(self):
        for row in [
            "= {}", "== a {}", "{}", "a *b {} c*", "- {}", "- a\n  + b\n    - {}", "| a | {} |\n|---|---|", "| a |\n|---|\n| {} |", "> {}",
            "> > - {}", "| {} |", "- a\n {}", "a\n{}", "> | {} |",
        ]:
            with self.subTest(row=row):
                told = Joined(read(row.format("[^n][x](l)[^m][x](k)") + "\n\n[^n]: x\n[l]: y"))
                self.assertEqual(told.numbered(), ["n"])
                self.assertEqual(told.lacks(), [("note", "m"), ("link", "k")])
                self.assertEqual(told.spare(), [])

    def test_what_is_no_use(self):
        told = joins("~~~", "[^n][x](l)", "~~~", "`[^n][x](l)`", "", "\\[^n] \\[x](l)", "[^n]: x", "[l]: [^n]", "[k]: [x](l)")
        self.assertEqual((told.numbered(), told.lacks()), ([], []))
        self.assertEqual(told.spare(), [("note", "n"), ("link", "l"), ("link", "k")])

    def test_the_words_of_a_link_are_no_use(self):
        told = joins("[a \\[^n\\]](l) [^ m](l)", "[^n]: x", "[l]: y")
        self.assertEqual((told.numbered(), told.lacks(), told.spare()), ([], [], [("note", "n")]))

    def test_the_order_of_the_text(self):
        told = joins(
            "| [^b] | [^a] |", "|---|---|", "| [^d] | [^c] |", "| [^f] | [^e] |", "", "- [^h]", "  - [^j]", "    - [^i]", "  - [^g]",
            "- [^k]", "> [^m]", "> > [^l]", ">", "> [^o]", "= [^n]", "*[^q]* [^p]",
            "[^a]: x", "[^b]: x", "[^c]: x", "[^d]: x", "[^e]: x", "[^f]: x", "[^g]: x", "[^h]: x", "[^i]: x", "[^j]: x", "[^k]: x",
            "[^l]: x", "[^m]: x", "[^n]: x", "[^o]: x", "[^p]: x", "[^q]: x")
        self.assertEqual("".join(told.numbered()), "badcfehjigkmlonqp")

    def test_names_in_great_letters_are_one_with_those_in_small(self):
        told = joins("[^AB] [x](CD)", "[^aB]: x", "[Cd]: Y")
        self.assertEqual((told.numbered(), told.goes("cd"), told.lacks(), told.spare()), (["ab"], "Y", [], []))


class InNotes(unittest.TestCase):
    def test_words_of_notes_with_numbers_give_numbers_to_more(self):
        told = joins("[^b]: [^d] [^a]", "[^a] [^b]", "[^a]: [^c]", "[^c]: [^e]", "[^d]: x", "[^e]: y")
        # First those of the paragraph, then those of a, of b, of c.
        self.assertEqual(told.numbered(), ["a", "b", "c", "d", "e"])

    def test_uses_of_all_other_blocks_come_first(self):
        told = joins("[^a]", "[^a]: [^b]", "> [^c]", "[^b]: x", "[^c]: x")
        self.assertEqual(told.numbered(), ["a", "c", "b"])
        told = joins("[^a]", "[^a]: [x](b) [^n]", "[x](c) [^m]")
        self.assertEqual(told.lacks(), [("link", "c"), ("note", "m"), ("link", "b"), ("note", "n")])

    def test_notes_that_use_each_other_or_themselves(self):
        told = joins("[^a]", "[^a]: [^b]", "[^b]: [^a] [^c]", "[^c]: [^c]")
        self.assertEqual((told.numbered(), told.lacks(), told.spare()), (["a", "b", "c"], [], []))
        told = joins("[^a]: [^a]", "[^b]: [^c]", "[^c]: [^b]")
        self.assertEqual((told.numbered(), told.spare()), ([], [("note", "a"), ("note", "b"), ("note", "c")]))

    def test_a_note_without_a_number_uses_nothing(self):
        told = joins("[^a]", "[^a]: x", "[^b]: [^c] [x](l) [^m] [y](k)", "[^c]: x", "[l]: y")
        self.assertEqual((told.numbered(), told.lacks()), (["a"], []))
        self.assertEqual(told.spare(), [("note", "b"), ("note", "c"), ("link", "l")])

    def test_a_definition_that_does_not_count_uses_nothing(self):
        told = joins("[^a]", "[^a]: x", "[^a]: [^b] [y](m)", "[^b]: z")
        self.assertEqual((told.numbered(), told.lacks(), told.twice(), told.spare()), (
            ["a"], [], [("note", "a")], [("note", "b")]))

    def test_a_note_in_a_quote(self):
        told = joins("> [^a]: [^b] [x](l)", "> [^b]: y", "", "[^a]")
        self.assertEqual((told.numbered(), told.lacks(), told.spare()), (["a", "b"], [("link", "l")], []))

    def test_links_in_words_of_notes_are_used(self):
        told = joins("[^a]", "[^a]: *[x](l)*", "[l]: y", "[k]: z")
        self.assertEqual((told.lacks(), told.spare()), ([], [("link", "k")]))


class Lacking(unittest.TestCase):
    def test_each_once_in_the_order_in_which_they_are_come_to(self):
        told = joins("[x](b) [^b] [x](a) [x](B) [^a] [^B]", "- [^c] [x](a)")
        self.assertEqual(told.lacks(), [("link", "b"), ("note", "b"), ("link", "a"), ("note", "a"), ("note", "c")])
        self.assertEqual((told.numbered(), told.twice(), told.spare()), ([], [], []))

    def test_what_is_defined_later_does_not_lack(self):
        self.assertEqual(joins("[x](a) [^a]", "", "> [a]: b", "> [^a]: c").lacks(), [])


class Asking(unittest.TestCase):
    def setUp(self):
        self.told = joins("[^ab]", "[^Ab]: *x* y", "[^cd]: z", "[Ef]: G")

    def test_used_or_not(self):
        self.assertEqual(self.told.goes("ef"), "G")
        self.assertEqual((self.told.number("ab"), self.told.number("cd")), (1, None))
        self.assertEqual(self.told.words_at("ab"), [("strong", plain("x")), ("plain", " y")])
        self.assertEqual(self.told.words_at("cd"), plain("z"))

    def test_other_things(self):
        wrong = ["EF", "Ef", "AB", "Ab", "CD", "", " ", "a b", "ab ", "x", "abcdefghijklm", "\n", "link", "note", "z" * 1000]
        for name in wrong + ["ab", "cd"]:
            self.assertIsNone(self.told.goes(name), name)
        for name in wrong + ["ef"]:
            self.assertIsNone(self.told.number(name), name)
        for name in wrong + ["ef"]:
            self.refuse(name)

    def test_things_of_every_kind(self):
        for thing in no_texts():
            self.assertIsNone(self.told.goes(thing))
            self.assertIsNone(self.told.number(thing))
            self.refuse(thing)
        for thing in [("note", "ab"), ["ab"], ("ab",), {"ab"}]:
            self.assertIsNone(self.told.number(thing))
            self.refuse(thing)

    def refuse(self, thing):
        with self.assertRaises(BadName) as caught:
            self.told.words_at(thing)
        self.assertIs(type(caught.exception), BadName)

    def test_kinds(self):
        self.assertIs(type(self.told.number("ab")), int)
        for told in [self.told.numbered(), self.told.lacks(), self.told.twice(), self.told.spare(), self.told.words_at("ab")]:
            self.assertIsInstance(told, list)
        told = joins("[x](a)", "[b]: c", "[b]: d")
        for pairs in [told.lacks(), told.twice(), told.spare()]:
            self.assertEqual([type(pair) for pair in pairs], [tuple])


def joined_slowly(tree):
    """Points 16 and 17 once more, straight over a told tree, to hold the program against."""
    defined, twice, uses = [], [], []

    def in_parts(parts):
        for part in parts:
            if part[0] == "strong":
                yield from in_parts(part[1])
            if part[0] == "link":
                yield ("link", part[2])
            if part[0] == "note":
                yield part

    def in_entries(entries):
        for _, parts, within in entries:
            yield from in_parts(parts)
            yield from in_entries(within)

    def look(blocks):
        for block in blocks:
            if block[0] in ("name", "note"):
                pair = ("link" if block[0] == "name" else "note", block[1])
                if pair in dict(defined):
                    twice.append(pair)
                else:
                    defined.append((pair, block[2]))
            elif block[0] == "quote":
                look(block[1])
            elif block[0] == "list":
                uses.extend(in_entries(block[1]))
            elif block[0] == "table":
                for line in [block[1]] + block[3]:
                    for cell in line:
                        uses.extend(in_parts(cell))
            elif block[0] != "literal":
                uses.extend(in_parts(block[-1]))
    look(tree)
    defined = dict(defined)
    numbered, place = [], 0
    while place < len(uses):
        pair = uses[place]
        if pair[0] == "note" and pair in defined and pair[1] not in numbered:
            numbered.append(pair[1])
            uses.extend(in_parts(defined[pair]))
        place += 1
    lacks = list(dict.fromkeys(pair for pair in uses if pair not in defined))
    return numbered, lacks, twice, [pair for pair in defined if pair not in uses]


class Slowly(unittest.TestCase):
    def agree(self, document):
        told = Joined(document)
        asked = joined_slowly(document.told())
        self.assertEqual((told.numbered(), told.lacks(), told.twice(), told.spare()), asked, document.text())
        for number, name in enumerate(asked[0], start=1):
            self.assertEqual(told.number(name), number)

    def test_drawn_trees_and_texts(self):
        dice = draw("joins")
        for _ in range(2000):
            self.agree(made(drawn_tree(dice)))
            self.agree(read(drawn_marked_text(dice)))

    def test_drawn_notes(self):
        dice = draw("notes")
        rows = [f"[^{a}]: [^{b}] [x]({c})" for a in "abcd" for b in "abcde" for c in "ab"] + [f"[{a}]: t" for a in "abc"]
        rows += [f"[^{a}]" for a in "abcde"] + ["[y](a)", "> [^a]", "> [^b]: [^c]", "", "[^a]: x", "[^b]: *[^d]*"]
        for _ in range(4000):
            self.agree(read("\n\n".join(dice.choice(rows) for _ in range(dice.randint(1, 10)))))


class Own(unittest.TestCase):
    """Point 1: what is told is the asker's own, what is handed in is neither changed nor kept."""

    def test_told_lists_are_told_anew(self):
        told = joins("[^a] [x](l)", "[^a]: *b*", "[^a]: c", "[k]: d")
        asked = (["a"], [("link", "l")], [("note", "a")], [("link", "k")], [("strong", plain("b"))])

        def answers():
            return (told.numbered(), told.lacks(), told.twice(), told.spare(), told.words_at("a"))
        self.assertEqual(answers(), asked)
        told.words_at("a")[0][1].clear()
        for one in answers():
            one.append("x")
            one[0] = "y"
        self.assertEqual(answers(), asked)
        for one in answers():
            one.clear()
        self.assertEqual(answers(), asked)

    def test_the_document_stays(self):
        document = read("[^a] [x](l)\n[^a]: *b*\n[^a]: c")
        tree, text = document.told(), document.text()
        told = Joined(document)
        told.words_at("a").clear()
        self.assertEqual((document.told(), document.text()), (tree, text))

    def test_long_texts(self):
        for piece in ["[^a] ", "[x](b) ", "[^a]: [^a]\n", "[a]: b\n", "- [^a]\n"]:
            document = read((piece * 200_000)[:200_000])
            Joined(document)
        names = [f"n{number}" for number in range(9000)]
        told = Joined(read("[^n0]\n" + "\n".join(f"[^{one}]: [^{other}]" for one, other in zip(names, names[1:]))))
        self.assertEqual(len(told.numbered()), 8999)
        self.assertEqual(told.lacks(), [("note", "n8999")])
