"""Points 1 and 6 to 9 and inline.py: parts read from a text, and made of what is told."""

import itertools
import re
import unittest

from lightmark.errors import BadTree
from lightmark.inline import need_parts, parts_of
from lightmark.parts import Code, Link, Mark, Part, Plain, Strong, raw_of, said_of, told_parts
from lightmark.signs import tidy
from tests.draws import PART_SIGNS, draw, drawn_parts, drawn_text
from tests.things import no_texts

TAKEN = "\\*`[]|-+=>~:^"
ALL_SIGNS = [chr(number) for number in range(32, 127) if chr(number) != "%"]
LONGEST = 200_000


def plain(signs):
    return ("plain", signs)


def read(text):
    return told_parts(parts_of(text))


def patterned(text):
    """Points 6 and 7 once more, by a pattern, to hold the program against."""
    taken = r"\\([\\*`\[\]|\-+=>~:^])"
    words = r"((?:\\[\\*`\[\]|\-+=>~:^]|\\(?![\\*`\[\]|\-+=>~:^])|[^\]\\])+)"
    name = r"([a-zA-Z0-9]{1,12})"
    found = re.finditer(rf"{taken}|`([^`]+)`|\[\^{name}\]|\[{words}\]\({name}\)|(\*)|(.)", text)
    lists = [[]]
    for sign, code, note, linked, target, star, other in [one.groups() for one in found]:
        if star:
            lists.append([])
        elif code:
            lists[-1].append(("code", code))
        elif note:
            lists[-1].append(("note", note.lower()))
        elif linked:
            lists[-1].append(("link", re.sub(taken, r"\1", linked), target.lower()))
        else:
            lists[-1].append(plain(sign or other))
    told = lists[0]
    for place in range(1, len(lists), 2):
        inner = lists[place]
        if place + 1 == len(lists):
            told = told + [plain("*")] + inner
        elif inner:
            told = told + [("strong", run_together(inner))] + lists[place + 1]
        else:
            told = told + [plain("**")] + lists[place + 1]
    return run_together(told)


def run_together(told):
    parts = []
    for part in told:
        if parts and part[0] == "plain" == parts[-1][0]:
            part = plain(parts.pop()[1] + part[1])
        parts.append(part)
    return parts


class ReadCase(unittest.TestCase):
    def check(self, pairs):
        for text, told in pairs:
            with self.subTest(text=text):
                self.assertEqual(read(text), told)

    def check_plain(self, texts):
        self.check([(text, [plain(text)]) for text in texts])


class Reading(ReadCase):
    def test_no_signs_no_parts(self):
        self.assertEqual(parts_of(""), [])

    def test_kinds(self):
        parts = parts_of("a`b`*c*[d](e)[^f]")
        self.assertIsInstance(parts, list)
        self.assertEqual([type(part) for part in parts], [Plain, Code, Strong, Link, Mark])
        self.assertTrue(all(isinstance(part, Part) for part in parts[2].parts))

    def test_signs_that_are_no_marks_are_one_part(self):
        others = [sign for sign in ALL_SIGNS if sign not in "\\*`[]"]
        self.check_plain(["a", "a b c", "".join(others), "a|b", "-", "> a", "~~~", "(a)", "^a", ":", "a_b"])

    def test_plain_signs_side_by_side_are_one_part(self):
        self.check([
            ("a\\*b", [plain("a*b")]),
            ("\\a\\*\\[b]`", [plain("\\a*[b]`")]),
            ("a [b] ** `` c* d", [plain("a [b] ** `` c* d")]),
            ("a`b`c\\`d*e*\\*f", [plain("a"), ("code", "b"), plain("c`d"), ("strong", [plain("e")]), plain("*f")]),
        ])


class Backslashes(ReadCase):
    def test_ahead_of_each_sign_that_they_take(self):
        for sign in TAKEN:
            self.check([
                ("\\" + sign, [plain(sign)]),
                ("a\\" + sign + "b", [plain("a" + sign + "b")]),
                ("\\" + sign + "\\" + sign, [plain(sign + sign)]),
            ])

    def test_ahead_of_others(self):
        for sign in ALL_SIGNS:
            if sign not in TAKEN:
                self.check([("a\\" + sign + "b", [plain("a\\" + sign + "b")])])

    def test_at_the_end(self):
        self.check([
            ("\\", [plain("\\")]),
            ("a\\", [plain("a\\")]),
            ("\\\\", [plain("\\")]),
            ("\\\\\\", [plain("\\\\")]),
            ("*a\\", [plain("*a\\")]),
        ])

    def test_several(self):
        self.check([
            ("\\\\*a*", [plain("\\"), ("strong", [plain("a")])]),
            ("\\\\\\*a*", [plain("\\*a*")]),
            ("\\\\`a`", [plain("\\"), ("code", "a")]),
            ("\\\\[^a]", [plain("\\"), ("note", "a")]),
            ("\\\\[a](b)", [plain("\\"), ("link", "a", "b")]),
        ])

    def test_what_is_taken_is_no_mark(self):
        self.check([
            ("\\*a*", [plain("*a*")]),
            ("*a\\*", [plain("*a*")]),
            ("*a\\**", [("strong", [plain("a*")])]),
            ("\\`a`", [plain("`a`")]),
            ("\\[a](b)", [plain("[a](b)")]),
            ("\\[^a]", [plain("[^a]")]),
            ("[\\^a]", [plain("[^a]")]),
            ("[^a\\]", [plain("[^a]")]),
            ("[a\\](b)", [plain("[a](b)")]),
            ("[a]\\(b)", [plain("[a]\\(b)")]),
        ])


class InCode(ReadCase):
    def test_code(self):
        self.check([
            ("`a`", [("code", "a")]),
            ("` `", [("code", " ")]),
            ("` a `", [("code", " a ")]),
            ("a `b` c", [plain("a "), ("code", "b"), plain(" c")]),
            ("`a``b`", [("code", "a"), ("code", "b")]),
            ("`a` `b`", [("code", "a"), plain(" "), ("code", "b")]),
            ("`a`b`", [("code", "a"), plain("b`")]),
        ])

    def test_nothing_in_it_is_a_mark(self):
        self.check([
            ("`*`", [("code", "*")]),
            ("`*a*`", [("code", "*a*")]),
            ("`\\`", [("code", "\\")]),
            ("`\\``", [("code", "\\"), plain("`")]),
            ("`\\*`", [("code", "\\*")]),
            ("`[a](b)`", [("code", "[a](b)")]),
            ("`[^a]`", [("code", "[^a]")]),
            ("`[`a](b)", [("code", "["), plain("a](b)")]),
            ("`[a`](b)", [("code", "[a"), plain("](b)")]),
            ("*`*`*", [("strong", [("code", "*")])]),
            ("*a`*`", [plain("*a"), ("code", "*")]),
        ])

    def test_two_side_by_side(self):
        self.check([
            ("``", [plain("``")]),
            ("```", [plain("```")]),
            ("a``b", [plain("a``b")]),
            ("``a`", [plain("`"), ("code", "a")]),
            ("``a``", [plain("`"), ("code", "a"), plain("`")]),
            ("`` `", [plain("`"), ("code", " ")]),
            ("a`b``c", [plain("a"), ("code", "b"), plain("`c")]),
        ])

    def test_one_alone(self):
        self.check_plain(["`", "a`b", "`a", "a`", "` *a"])
        self.check([("`*a*", [plain("`"), ("strong", [plain("a")])]), ("`[^a]", [plain("`"), ("note", "a")])])

    def test_one_that_a_backslash_stands_ahead_of_ends_code(self):
        self.check([
            ("`a\\`b", [("code", "a\\"), plain("b")]),
            ("\\`a`b`", [plain("`a"), ("code", "b")]),
            ("\\``a`", [plain("`"), ("code", "a")]),
        ])


class Marks(ReadCase):
    def test_marks(self):
        self.check([
            ("[^a]", [("note", "a")]),
            ("[^7]", [("note", "7")]),
            ("[^abcdefghijkl]", [("note", "abcdefghijkl")]),
            ("[^NoTe1]", [("note", "note1")]),
            ("a[^b]c", [plain("a"), ("note", "b"), plain("c")]),
            ("[^a][^b]", [("note", "a"), ("note", "b")]),
            ("[^a]: b", [("note", "a"), plain(": b")]),
            ("[[^a]]", [plain("["), ("note", "a"), plain("]")]),
            ("[^[^a]", [plain("[^"), ("note", "a")]),
        ])

    def test_a_mark_goes_ahead_of_a_link(self):
        self.check([
            ("[^a](b)", [("note", "a"), plain("(b)")]),
            ("[^A](B)", [("note", "a"), plain("(B)")]),
        ])

    def test_what_is_nearly_one(self):
        self.check_plain([
            "[^]", "[^ ]", "[^a b]", "[^ a]", "[^a ]", "[^a-b]", "[^abcdefghijklm]", "[^a", "[^", "^a]", "[ ^a]", "[^^a]",
            "[^a)", "(^a]", "[a]", "[]"])

    def test_no_mark_but_a_link(self):
        self.check([
            ("[^](a)", [("link", "^", "a")]),
            ("[^a b](c)", [("link", "^a b", "c")]),
            ("[^-](a)", [("link", "^-", "a")]),
            ("[^abcdefghijklm](A)", [("link", "^abcdefghijklm", "a")]),
            ("[\\^a](b)", [("link", "^a", "b")]),
            ("[^[^a](b)", [("link", "^[^a", "b")]),
        ])


class Links(ReadCase):
    def test_links(self):
        self.check([
            ("[a](b)", [("link", "a", "b")]),
            ("[a b c](d)", [("link", "a b c", "d")]),
            ("[ ](a)", [("link", " ", "a")]),
            ("[ a ](b)", [("link", " a ", "b")]),
            ("[a](NaMe9)", [("link", "a", "name9")]),
            ("[A](abcdefghijkl)", [("link", "A", "abcdefghijkl")]),
            ("x[a](b)y", [plain("x"), ("link", "a", "b"), plain("y")]),
            ("[a](b)[c](d)", [("link", "a", "b"), ("link", "c", "d")]),
            ("[a](b)(c)", [("link", "a", "b"), plain("(c)")]),
            ("[a](b): c", [("link", "a", "b"), plain(": c")]),
        ])

    def test_nothing_in_the_words_is_a_mark(self):
        self.check([
            ("[*a*](b)", [("link", "*a*", "b")]),
            ("[*](b)*", [("link", "*", "b"), plain("*")]),
            ("[`a`](b)", [("link", "`a`", "b")]),
            ("[`](b)`", [("link", "`", "b"), plain("`")]),
            ("[a`b](c)`d`", [("link", "a`b", "c"), ("code", "d")]),
            ("[[](a)", [("link", "[", "a")]),
            ("[a[b](c)", [("link", "a[b", "c")]),
            ("[[a](b)", [("link", "[a", "b")]),
            ("[[a](b)](c)", [("link", "[a", "b"), plain("](c)")]),
            ("[a [^b](c)", [("link", "a [^b", "c")]),
            ("[(a)](b)", [("link", "(a)", "b")]),
        ])

    def test_backslashes_in_the_words(self):
        for sign in TAKEN:
            self.check([
                ("[\\" + sign + "](b)", [("link", sign, "b")]),
                ("[a\\" + sign + "c](b)", [("link", "a" + sign + "c", "b")]),
            ])
        self.check([
            ("[\\a](b)", [("link", "\\a", "b")]),
            ("[\\ ](b)", [("link", "\\ ", "b")]),
            ("[a\\\\](b)", [("link", "a\\", "b")]),
            ("[a\\\\\\](b)", [plain("[a\\](b)")]),
            ("[a\\]](b)", [("link", "a]", "b")]),
            ("[a\\](b)](c)", [("link", "a](b)", "c")]),
            ("[\\](b)", [plain("[](b)")]),
            ("[\\[\\]](b)", [("link", "[]", "b")]),
        ])

    def test_what_is_nearly_one(self):
        self.check_plain([
            "[](a)", "[a]()", "[a]( )", "[a](b c)", "[a]( b)", "[a](b )", "[a](b-c)", "[a](abcdefghijklm)", "[a](b",
            "[a](", "[a] (b)", "[a](b]", "[a]", "[a", "[", "]", "](a)", "a](b)", "[a]b](c)", "[]a](b)", "[a]](b)",
            "[a][b]", "[a](^b)", "[a]((b)", "(a)[b]"])

    def test_the_next_bracket_is_tried_anew(self):
        self.check([
            ("[a] [b](c)", [plain("[a] "), ("link", "b", "c")]),
            ("[a][b](c)", [plain("[a]"), ("link", "b", "c")]),
            ("[](a)[b](c)", [plain("[](a)"), ("link", "b", "c")]),
            ("[a](b c)[^d]", [plain("[a](b c)"), ("note", "d")]),
            ("[a] *b*](c)", [plain("[a] "), ("strong", [plain("b")]), plain("](c)")]),
        ])

    def test_code_ahead_of_the_end_does_not_hide_it(self):
        self.check([
            ("[a `](b)` c", [("link", "a `", "b"), plain("` c")]),
            ("[a `\\](b)` c", [plain("[a "), ("code", "\\](b)"), plain(" c")]),
            ("`\\`[a](b)", [("code", "\\"), ("link", "a", "b")]),
            ("`[`[a](b)", [("code", "["), ("link", "a", "b")]),
        ])


class Stars(ReadCase):
    def test_pairs(self):
        self.check([
            ("*a*", [("strong", [plain("a")])]),
            ("a *b* c", [plain("a "), ("strong", [plain("b")]), plain(" c")]),
            ("* *", [("strong", [plain(" ")])]),
            ("* a *", [("strong", [plain(" a ")])]),
            ("a*b*c*d*e", [plain("a"), ("strong", [plain("b")]), plain("c"), ("strong", [plain("d")]), plain("e")]),
            ("*a**b*", [("strong", [plain("a")]), ("strong", [plain("b")])]),
            ("*a* *b*", [("strong", [plain("a")]), plain(" "), ("strong", [plain("b")])]),
        ])

    def test_nothing_between(self):
        self.check_plain(["**", "****", "a**b", "a ** b", "**a"])
        self.check([
            ("**a**", [plain("**a**")]),
            ("***", [plain("***")]),
            ("***a*", [plain("**"), ("strong", [plain("a")])]),
            ("*a***", [("strong", [plain("a")]), plain("**")]),
            ("*a*****b*", [("strong", [plain("a")]), plain("****b*")]),
            ("*a****b*", [("strong", [plain("a")]), plain("**"), ("strong", [plain("b")])]),
        ])

    def test_a_last_one_alone(self):
        self.check_plain(["*", "a*", "*a", "a * b"])
        self.check([
            ("*a* *", [("strong", [plain("a")]), plain(" *")]),
            ("*a*b*c", [("strong", [plain("a")]), plain("b*c")]),
            ("a *`b`", [plain("a *"), ("code", "b")]),
            ("a*[^b]c", [plain("a*"), ("note", "b"), plain("c")]),
        ])

    def test_code_links_and_marks_between(self):
        self.check([
            ("*`a`*", [("strong", [("code", "a")])]),
            ("*[a](b)*", [("strong", [("link", "a", "b")])]),
            ("*[^a]*", [("strong", [("note", "a")])]),
            ("*a`b`c[d](e)[^f] g*", [("strong", [
                plain("a"), ("code", "b"), plain("c"), ("link", "d", "e"), ("note", "f"), plain(" g")])]),
            ("*[*](a)*", [("strong", [("link", "*", "a")])]),
            ("*`*`\\**", [("strong", [("code", "*"), plain("*")])]),
            ("*[a*](b)", [plain("*"), ("link", "a*", "b")]),
            ("[a*b*", [plain("[a"), ("strong", [plain("b")])]),
            ("*[a*](b", [("strong", [plain("[a")]), plain("](b")]),
        ])


class ByPattern(unittest.TestCase):
    def agree(self, signs, most):
        for length in range(most + 1):
            for picked in itertools.product(signs, repeat=length):
                text = "".join(picked)
                if text == tidy(text):
                    self.assertEqual(read(text), patterned(text), text)

    def test_every_short_text(self):
        self.agree(["\\", "*", "`", "[", "]", "(a)", "^", "b"], 5)

    def test_texts_of_few_signs(self):
        self.agree(["*", "`", "a"], 8)
        self.agree(["\\", "[", "]", "](B)"], 7)
        self.agree(["[^", "a", "]", "(b)", "["], 6)
        self.agree(["*", " ", "`"], 8)

    def test_drawn_texts(self):
        dice = draw("texts")
        pieces = list(PART_SIGNS) + ["[^a]", "[b](c)", "](d)", "[^", "abcdefghijkl", "x\\"]
        for _ in range(20000):
            text = tidy(drawn_text(dice, pieces, 16))
            self.assertEqual(read(text), patterned(text), text)


class WrittenAndRead(unittest.TestCase):
    """Point 8: read again, they are the same parts."""

    def test_drawn_lists(self):
        dice = draw("lists")
        for _ in range(20000):
            told = drawn_parts(dice)
            raw = raw_of(need_parts(told))
            self.assertEqual(read(raw), told, raw)
            self.assertEqual(tidy(raw), raw)

    def test_pairs_of_parts(self):
        parts = [
            plain(":"), plain("(a)"), plain("^"), plain("*"), plain("`"), plain("["), plain("]"), plain("\\"), plain("](a)"),
            plain("-"), plain("a"), ("code", "a"), ("code", "\\"), ("code", "*"), ("code", "[^a]"), ("code", " "),
            ("link", "a", "b"), ("link", "^", "b"), ("link", "\\", "b"), ("link", "]", "b"), ("link", "](a)", "b"),
            ("link", "\\^", "b"), ("link", " ", "b"), ("link", "*`", "b"), ("note", "a")]
        parts += [("strong", [part]) for part in parts]
        for told in [list(pair) for pair in itertools.product(parts, repeat=2)]:
            if not told[0][0] == told[1][0] == "plain":
                self.assertEqual(read(raw_of(need_parts(told))), told)
                if "strong" not in [told[0][0], told[1][0]]:
                    self.assertEqual(read(raw_of(need_parts([("strong", told)]))), [("strong", told)])

    def test_drawn_texts(self):
        dice = draw("written")
        pieces = list(PART_SIGNS) + ["[^a]", "[b](c)", "](d)", "[^", "[^A]:", "\\^"]
        for _ in range(20000):
            parts = parts_of(tidy(drawn_text(dice, pieces, 14)))
            raw = raw_of(parts)
            self.assertEqual(read(raw), told_parts(parts), raw)
            self.assertEqual(raw_of(parts_of(raw)), raw)

    def test_what_is_read_is_normal(self):
        dice = draw("normal")
        pieces = list(PART_SIGNS) + ["[^A]", "[b](C)", "](d)", "* *", "` `"]
        for _ in range(20000):
            told = read(tidy(drawn_text(dice, pieces, 14)))
            self.assertEqual(told_parts(need_parts(told)), told)


class Longest(unittest.TestCase):
    def test_long_texts_are_read_in_good_time(self):
        for text, told in [
            ("a" * LONGEST, [plain("a" * LONGEST)]),
            ("[" * LONGEST, [plain("[" * LONGEST)]),
            ("]" * LONGEST, [plain("]" * LONGEST)]),
            ("`" * LONGEST, [plain("`" * LONGEST)]),
            ("*" * LONGEST, [plain("*" * LONGEST)]),
            ("\\" * LONGEST, [plain("\\" * (LONGEST // 2))]),
            ("[^" * (LONGEST // 2), [plain("[^" * (LONGEST // 2))]),
            ("[" * (LONGEST - 1) + "]", [plain("[" * (LONGEST - 1) + "]")]),
            ("[" * (LONGEST - 4) + "](a)", [("link", "[" * (LONGEST - 5), "a")]),
            ("[a]" * (LONGEST // 3), [plain("[a]" * (LONGEST // 3))]),
            ("[^a]" * (LONGEST // 4), [("note", "a")] * (LONGEST // 4)),
            ("*a*" * (LONGEST // 3), [("strong", [plain("a")])] * (LONGEST // 3)),
        ]:
            with self.subTest(text=text[:9]):
                # Not assertEqual: of texts as long as these it would take very long to show what differs.
                self.assertTrue(read(text) == told)


class NeedParts(unittest.TestCase):
    def refuse(self, told):
        # The class itself, not one under it: each refusal has its own.
        with self.assertRaises(BadTree) as caught:
            need_parts(told)
        self.assertIs(type(caught.exception), BadTree)

    def test_takes_what_is_normal(self):
        for told in [
            [],
            [plain("a")],
            [plain("a b")],
            [plain("\\*`[]|^:")],
            [("code", "a")],
            [("code", " ")],
            [("code", " a b ")],
            [("code", "\\*[]")],
            [("link", "a", "b")],
            [("link", " ", "b")],
            [("link", " a b ", "b")],
            [("link", "`*]", "abcdefghijkl")],
            [("note", "a")],
            [("note", "0")],
            [("note", "abcdef012345")],
            [("strong", [plain("a")])],
            [("strong", [plain(" ")])],
            [("strong", [plain(" a ")])],
            [("strong", [plain(" a"), ("code", "b"), plain("c "), ("link", "d", "e"), ("note", "f"), plain(" ")])],
            [plain("a "), ("code", "b"), plain(" "), ("code", "c"), plain(" d")],
            [("code", "a"), ("code", "a"), ("note", "b"), ("note", "b"), ("strong", [plain("c")]), ("strong", [plain("c")])],
            [("strong", [plain(" a")]), plain("b")],
        ]:
            with self.subTest(told=told):
                parts = need_parts(told)
                self.assertEqual(told_parts(parts), told)
                self.assertIsInstance(parts, list)
                self.assertTrue(all(isinstance(part, Part) for part in parts))

    def test_kinds(self):
        parts = need_parts([plain("a"), ("code", "b"), ("strong", [("note", "c")]), ("link", "d", "e"), ("note", "f")])
        self.assertEqual([type(part) for part in parts], [Plain, Code, Strong, Link, Mark])
        self.assertEqual(type(parts[2].parts[0]), Mark)
        self.assertEqual(said_of(parts, lambda name: name, lambda name: name), "a'b'*[c]*d (e)[f]")

    def wrong_parts(self):
        """Tuples and other things that are no part as told, wherever they stand."""
        for sort in ["plain", "code"]:
            yield from [(sort,), (sort, ""), (sort, "a  b"), (sort, "  "), (sort, "a\tb"), (sort, "a\nb"), (sort, "\n")]
            yield from [(sort, "a", "b"), (sort, "a", None), (sort, "\t"), [sort, "a"], (sort, ["a"]), (sort, ("a",))]
        yield from [("code", "`"), ("code", "a`b"), ("code", "a`")]
        yield from [("link",), ("link", "a"), ("link", "a", "b", "c"), ("link", "", "b"), ("link", "a", "")]
        yield from [("link", "a  b", "c"), ("link", "a\tb", "c"), ("link", "a\nb", "c"), ["link", "a", "b"]]
        yield from [("note",), ("note", "a", "b"), ["note", "a"], ("mark", "a"), ("Plain", "a"), ("PLAIN", "a")]
        for name in ["", "A", "aB", "a b", " a", "a ", "a-b", "^a", "abcdefghijklm", "a\n", "a\t", "\u00e4"]:
            yield from [("note", name), ("link", "a", name)]
        yield from [("strong",), ("strong", []), ("strong", [plain("a")], []), ("strong", "a"), ("strong", (plain("a"),))]
        yield from [("strong", [("strong", [plain("a")])]), ("strong", plain("a")), ["strong", [plain("a")]]]
        yield from [("bold", [plain("a")]), ("", [plain("a")]), ("Strong", [plain("a")]), ("list", [plain("a")])]
        yield from [(), [], ("",), ("", ""), ("a", "b"), "plain", "ab", ("plain", "a") * 2, {"plain": "a"}]
        yield from [Plain("a"), Code("a"), ("strong", [Plain("a")]), (plain("a"),), [plain("a")]]

    def test_refuses_each_way_of_being_not_normal(self):
        for thing in self.wrong_parts():
            with self.subTest(thing=repr(thing)):
                self.refuse([thing])
                self.refuse([plain("a"), thing])
                self.refuse([thing, ("code", "a")])
                self.refuse([("strong", [thing])])
                self.refuse([("strong", [("code", "a"), thing, ("note", "b")])])

    def test_refuses_things_of_every_kind_in_the_place_of_a_text(self):
        for number in range(len(no_texts())):
            for wrong in [
                lambda thing: ("plain", thing), lambda thing: ("code", thing), lambda thing: ("link", thing, "a"),
                lambda thing: ("link", "a", thing), lambda thing: ("note", thing), lambda thing: (thing, "a"),
                lambda thing: (thing, "a", "b"), lambda thing: (thing,),
            ]:
                with self.subTest(number=number):
                    self.refuse([wrong(no_texts()[number])])
                    self.refuse([("strong", [wrong(no_texts()[number])])])

    def test_refuses_things_of_every_kind_in_the_place_of_a_list_or_a_tuple(self):
        for number in range(len(no_texts())):
            with self.subTest(number=number):
                self.refuse([no_texts()[number]])
                self.refuse([("code", "a"), no_texts()[number]])
                self.refuse([("strong", [no_texts()[number]])])
                if not (isinstance(no_texts()[number], list) and no_texts()[number] == []):
                    self.refuse(no_texts()[number])
                self.refuse(("strong", no_texts()[number]))
                self.refuse([("strong", no_texts()[number])])
        for text in ["", "a", "plain"]:
            self.refuse(text)
            self.refuse([("strong", text)])
        self.refuse((plain("a"),))
        self.refuse(plain("a"))

    def test_refuses_two_plain_parts_side_by_side(self):
        for told in [
            [plain("a"), plain("b")],
            [plain("a"), plain("b"), ("code", "c")],
            [("code", "a"), plain("b"), plain("c")],
            [("strong", [plain("a")]), plain("b"), plain("c"), ("note", "d")],
        ]:
            with self.subTest(told=told):
                self.refuse(told)
        for inner in [[plain("a"), plain("b")], [("code", "a"), plain("b"), plain("c")]]:
            with self.subTest(inner=inner):
                self.refuse([("strong", inner)])
        self.assertEqual(len(need_parts([plain("a"), ("code", "b"), plain("c")])), 3)
        self.assertEqual(len(need_parts([plain("a"), ("strong", [plain("b")]), plain("c")])), 3)

    def test_refuses_blanks_at_the_begin_and_the_end(self):
        code = ("code", "a")
        for told in [
            [plain(" ")], [plain(" a")], [plain("a ")], [plain(" a ")], [plain(" a"), code], [plain(" "), code],
            [code, plain("a ")], [code, plain(" ")], [plain(" a"), code, plain("b")], [plain("a"), code, plain("b ")],
        ]:
            with self.subTest(told=told):
                self.refuse(told)
        for told in [[plain("a "), code], [code, plain(" a")], [code, plain(" "), code], [("code", " "), ("code", " ")]]:
            with self.subTest(told=told):
                self.assertEqual(told_parts(need_parts(told)), told)

    def test_drawn_trees_with_one_thing_wrong(self):
        dice = draw("wrong")
        wrong = list(self.wrong_parts())
        for _ in range(3000):
            told = drawn_parts(dice)
            self.assertEqual(told_parts(need_parts(told)), told)
            strong = [part for part in told if part[0] == "strong"]
            into = dice.choice(strong)[1] if strong and dice.random() < 0.5 else told
            into.insert(dice.randint(0, len(into)), dice.choice(wrong))
            self.refuse(told)


class Own(unittest.TestCase):
    """Point 1: what is told is the asker's own, what is handed in is neither changed nor kept."""

    def test_what_is_handed_in_is_neither_changed_nor_kept(self):
        inner = [plain("a"), ("code", "b")]
        told = [("strong", inner), plain("c")]
        parts = need_parts(told)
        self.assertEqual(told, [("strong", [plain("a"), ("code", "b")]), plain("c")])
        inner.append(("note", "d"))
        told.clear()
        self.assertEqual(told_parts(parts), [("strong", [plain("a"), ("code", "b")]), plain("c")])
        self.assertEqual(raw_of(parts), "*a`b`*c")

    def test_what_is_refused_is_not_changed(self):
        told = [("strong", [plain("a"), plain("b")])]
        with self.assertRaises(BadTree):
            need_parts(told)
        self.assertEqual(told, [("strong", [plain("a"), plain("b")])])

    def test_lists_of_parts_are_told_anew(self):
        for tell in [lambda: parts_of("*a* b"), lambda: need_parts([("strong", [plain("a")]), plain(" b")])]:
            first, second = tell(), tell()
            first[0].parts.append(Mark("c"))
            first.clear()
            self.assertEqual(told_parts(second), [("strong", [plain("a")]), plain(" b")])
            self.assertEqual(told_parts(tell()), [("strong", [plain("a")]), plain(" b")])
        parts_of("").append(Plain("a"))
        need_parts([]).append(Plain("a"))
        self.assertEqual((parts_of(""), need_parts([])), ([], []))
