"""Points 1, 5, 8 and 10 and parts.py: the parts, told, written and set."""

import unittest

from lightmark.parts import Code, Link, Mark, Part, Plain, Strong, raw_of, said_of, told_parts

CLASSES = [Plain, Code, Strong, Link, Mark]
ESCAPED = "\\*`[]"
OTHERS = [chr(number) for number in range(32, 127) if chr(number) not in "%" + ESCAPED]


def link(name):
    return "to " + name


def note(name):
    return name.upper()


def one_of_each():
    return [
        Plain("a"), Code("b"), Strong([Plain("c"), Code("d"), Link("e", "f"), Mark("g")]), Link("h i", "j"), Mark("k")]


class Classes(unittest.TestCase):
    def test_each_stands_straight_under_part(self):
        for kind in CLASSES:
            with self.subTest(kind=kind.__name__):
                self.assertEqual(kind.__bases__, (Part,))

    def test_none_stands_under_another(self):
        for one in CLASSES:
            for other in CLASSES:
                self.assertEqual(issubclass(one, other), one is other)
        for part, kind in zip(one_of_each(), CLASSES):
            self.assertEqual([isinstance(part, other) for other in CLASSES], [other is kind for other in CLASSES])
            self.assertIsInstance(part, Part)

    def test_what_an_object_holds(self):
        parts = one_of_each()
        self.assertEqual((parts[0].signs, parts[1].signs), ("a", "b"))
        self.assertEqual(told_parts(parts[2].parts), [("plain", "c"), ("code", "d"), ("link", "e", "f"), ("note", "g")])
        self.assertEqual((parts[3].words, parts[3].name, parts[4].name), ("h i", "j", "k"))


class Told(unittest.TestCase):
    def test_told_of_each(self):
        for part, told in zip(one_of_each(), [
            ("plain", "a"),
            ("code", "b"),
            ("strong", [("plain", "c"), ("code", "d"), ("link", "e", "f"), ("note", "g")]),
            ("link", "h i", "j"),
            ("note", "k"),
        ]):
            with self.subTest(told=told):
                self.assertEqual(part.told(), told)
                self.assertIsInstance(part.told(), tuple)
        self.assertIsInstance(Strong([Mark("a")]).told()[1], list)

    def test_signs_are_told_as_they_are(self):
        signs = " \\*`[]|^: "
        self.assertEqual(Plain(signs).told(), ("plain", signs))
        self.assertEqual(Code("\\*[]").told(), ("code", "\\*[]"))
        self.assertEqual(Link(signs, "a").told(), ("link", signs, "a"))

    def test_told_parts(self):
        self.assertEqual(told_parts([]), [])
        self.assertEqual(told_parts([Mark("a"), Plain(" b")]), [("note", "a"), ("plain", " b")])
        self.assertEqual(told_parts([Strong([Plain("a")])]), [("strong", [("plain", "a")])])
        self.assertIsInstance(told_parts((Mark("a"),)), list)


class Raw(unittest.TestCase):
    def test_raw_of_each(self):
        for part, raw in zip(one_of_each(), ["a", "`b`", "*c`d`[e](f)[^g]*", "[h i](j)", "[^k]"]):
            with self.subTest(raw=raw):
                self.assertEqual(part.raw(), raw)
                self.assertEqual(raw_of([part]), raw)

    def test_each_sign_that_gets_a_backslash(self):
        for sign in ESCAPED:
            with self.subTest(sign=sign):
                self.assertEqual(Plain(sign).raw(), "\\" + sign)
                self.assertEqual(Plain("a" + sign + sign + "b").raw(), "a\\" + sign + "\\" + sign + "b")
                self.assertEqual(Link("a" + sign, "b").raw(), "[a\\" + sign + "](b)")
                self.assertEqual(Strong([Plain(sign)]).raw(), "*\\" + sign + "*")

    def test_no_other_sign_gets_one(self):
        for sign in OTHERS:
            with self.subTest(sign=sign):
                self.assertEqual(Plain(sign).raw(), sign)
                self.assertEqual(Plain(sign + "a" + sign).raw(), sign + "a" + sign)
                self.assertEqual(Link("a" + sign, "b").raw(), "[a" + sign + "](b)")

    def test_nothing_in_code_gets_one(self):
        for sign in OTHERS + ["\\", "*", "[", "]"]:
            with self.subTest(sign=sign):
                self.assertEqual(Code(sign + "a" + sign).raw(), "`" + sign + "a" + sign + "`")

    def test_caret_first_in_the_words_of_a_link(self):
        for words, raw in [
            ("^", "[\\^](a)"), ("^b", "[\\^b](a)"), ("^^b", "[\\^^b](a)"), ("b^", "[b^](a)"), (" ^", "[ ^](a)"),
            ("\\^", "[\\\\^](a)"), ("^\\", "[\\^\\\\](a)"), ("[^b]", "[\\[^b\\]](a)"),
        ]:
            with self.subTest(words=words):
                self.assertEqual(Link(words, "a").raw(), raw)
                self.assertEqual(Strong([Link(words, "a")]).raw(), "*" + raw + "*")
        self.assertEqual(Plain("^b").raw(), "^b")

    def test_colon_behind_a_mark(self):
        for parts, raw in [
            ([Mark("a"), Plain(":")], "[^a]\\:"),
            ([Mark("a"), Plain(": b")], "[^a]\\: b"),
            ([Mark("a"), Plain("::")], "[^a]\\::"),
            ([Mark("a"), Plain(" :")], "[^a] :"),
            ([Mark("a"), Plain("b:")], "[^a]b:"),
            ([Mark("a"), Plain("*:")], "[^a]\\*:"),
            ([Plain("b"), Mark("a"), Plain(":c"), Mark("d"), Plain(":")], "b[^a]\\:c[^d]\\:"),
            ([Mark("a"), Mark("b"), Plain(":")], "[^a][^b]\\:"),
            ([Strong([Mark("a"), Plain(":")])], "*[^a]\\:*"),
            ([Plain(":")], ":"),
            ([Plain(": b"), Mark("a")], ": b[^a]"),
            ([Link("b", "a"), Plain(":")], "[b](a):"),
            ([Code("b"), Plain(":")], "`b`:"),
            ([Strong([Mark("a")]), Plain(":")], "*[^a]*:"),
            ([Mark("a"), Strong([Plain(":")])], "[^a]*:*"),
            ([Mark("a"), Code(":")], "[^a]`:`"),
            ([Mark("a"), Link(":", "b")], "[^a][:](b)"),
            ([Mark("a"), Code("b"), Plain(":")], "[^a]`b`:"),
            ([Mark("a"), Strong([Plain("b")]), Plain(":")], "[^a]*b*:"),
        ]:
            with self.subTest(raw=raw):
                self.assertEqual(raw_of(parts), raw)

    def test_raw_of_several(self):
        self.assertEqual(raw_of([]), "")
        self.assertEqual(raw_of(one_of_each()), "a`b`*c`d`[e](f)[^g]*[h i](j)[^k]")
        self.assertEqual(raw_of([Plain("a "), Strong([Plain(" b ")]), Code(" "), Plain(" c")]), "a * b *` ` c")


class Said(unittest.TestCase):
    def test_said_of_each(self):
        for part, said in zip(one_of_each(), ["a", "'b'", "*c'd'e (to f)[G]*", "h i (to j)", "[K]"]):
            with self.subTest(said=said):
                self.assertEqual(part.said(link, note), said)
                self.assertEqual(said_of([part], link, note), said)

    def test_signs_are_set_as_they_are(self):
        signs = " \\*`[]|^:'() "
        self.assertEqual(Plain(signs).said(link, note), signs)
        self.assertEqual(Code("\\*[]'").said(link, note), "'\\*[]''")
        self.assertEqual(Link(signs, "a").said(link, note), signs + " (to a)")
        self.assertEqual(Strong([Plain(signs)]).said(link, note), "*" + signs + "*")

    def test_said_of_several(self):
        self.assertEqual(said_of([], link, note), "")
        parts = [
            Plain("see "), Strong([Plain("all "), Link("the *x*", "x"), Plain(" of "), Code("*y*"), Mark("n1")]),
            Plain(", "), Link("there", "y"), Mark("n2"), Code("`"), Strong([Mark("n3")])]
        self.assertEqual(
            said_of(parts, link, note), "see *all the *x* (to x) of '*y*'[N1]*, there (to y)[N2]'`'*[N3]*")

    def test_what_the_closures_give_stands_there_as_it_is(self):
        parts = [Link("a", "b"), Mark("c"), Strong([Link("d", "e"), Mark("f")])]
        self.assertEqual(said_of(parts, lambda name: "", lambda name: "*[" + name), "a ()[*[c]*d ()[*[f]*")

    def test_the_closures_are_handed_the_names_of_their_own(self):
        links, notes = [], []
        said_of([Mark("a"), Link("b", "c"), Strong([Link("d", "e"), Mark("f")]), Mark("a"), Plain("g"), Code("h")],
                lambda name: links.append(name) or "", lambda name: notes.append(name) or "")
        self.assertEqual((links, notes), (["c", "e"], ["a", "f", "a"]))

    def test_closures_are_not_called_where_there_is_nothing_for_them(self):
        self.assertEqual(said_of([Plain("a"), Code("b"), Strong([Plain("c")])], None, None), "a'b'*c*")


class Own(unittest.TestCase):
    """Point 1: what is told is the asker's own, what is handed in is neither changed nor kept."""

    def test_told_lists_are_told_anew(self):
        parts = [Strong([Plain("a"), Code("b")])]
        asked = [("strong", [("plain", "a"), ("code", "b")])]
        first, second = told_parts(parts), told_parts(parts)
        first[0][1].clear()
        first.append("c")
        self.assertEqual(second, asked)
        self.assertEqual(told_parts(parts), asked)
        told = parts[0].told()
        told[1][0] = "d"
        self.assertEqual(parts[0].told(), asked[0])
        self.assertEqual(raw_of(parts), "*a`b`*")

    def test_a_list_changed_behind_the_call_leaves_no_trace(self):
        inner = [Plain("a"), Code("b")]
        strong = Strong(inner)
        inner.append(Mark("c"))
        inner[0] = Plain("d")
        self.assertEqual(strong.told(), ("strong", [("plain", "a"), ("code", "b")]))
        self.assertEqual(strong.raw(), "*a`b`*")
        self.assertEqual(strong.said(link, note), "*a'b'*")

    def test_what_is_handed_in_stays_as_it_is(self):
        parts = one_of_each()
        asked = list(parts)
        told, raw, said = told_parts(parts), raw_of(parts), said_of(parts, link, note)
        self.assertEqual(len(parts), len(asked))
        self.assertTrue(all(one is other for one, other in zip(parts, asked)))
        self.assertEqual((told_parts(parts), raw_of(parts), said_of(parts, link, note)), (told, raw, said))
