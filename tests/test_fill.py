"""Points 1 and 11 and fill.py: words filled into rows."""

import unittest

from lightmark.fill import filled
from tests.draws import draw


def bare(number):
    return ""


def dashed(number):
    return "- " if number == 0 else "  "


def growing(number):
    return "." * number


def filled_sign_by_sign(words, width, lead):
    """Point 11 once more, the slow way, to hold the program against."""
    rows = []
    for word in words:
        if rows and len(rows[-1] + " " + word) <= width:
            rows[-1] += " " + word
            continue
        rows.append(lead(len(rows)))
        for place, sign in enumerate(word):
            if len(rows[-1]) == width:
                rows.append(lead(len(rows)))
            rows[-1] += sign
    return rows


class Filled(unittest.TestCase):
    def check(self, width, lead, pairs):
        for words, rows in pairs:
            with self.subTest(words=words):
                told = filled(words, width, lead)
                self.assertEqual(told, rows)
                self.assertIsInstance(told, list)

    def test_no_words(self):
        for lead in [bare, dashed, growing]:
            self.assertEqual(filled([], 10, lead), [])
        self.assertEqual(filled([], 10, lambda number: self.fail("there is no row")), [])

    def test_words_that_go_in_just_and_one_sign_too_long(self):
        self.check(7, bare, [
            (["a"], ["a"]),
            (["abc", "def"], ["abc def"]),
            (["abc", "defg"], ["abc", "defg"]),
            (["abcd", "def"], ["abcd", "def"]),
            (["a", "b", "c", "d"], ["a b c d"]),
            (["a", "b", "c", "de"], ["a b c", "de"]),
            (["a", "b", "c", "d", "e"], ["a b c d", "e"]),
            (["abcdef", "g"], ["abcdef", "g"]),
            (["abcde", "g"], ["abcde g"]),
        ])

    def test_words_as_long_as_the_room_and_longer(self):
        self.check(4, bare, [
            (["abcd"], ["abcd"]),
            (["abcd", "efgh"], ["abcd", "efgh"]),
            (["abcde"], ["abcd", "e"]),
            (["abcde", "fg"], ["abcd", "e fg"]),
            (["abcde", "fgh"], ["abcd", "e", "fgh"]),
            (["a", "bcdef"], ["a", "bcde", "f"]),
            (["abcdefgh"], ["abcd", "efgh"]),
            (["abcdefgh", "i"], ["abcd", "efgh", "i"]),
            (["abcdefghi"], ["abcd", "efgh", "i"]),
            (["abcdefghi", "j", "k"], ["abcd", "efgh", "i j", "k"]),
            (["abcdefghijklm", "nopqr"], ["abcd", "efgh", "ijkl", "m", "nopq", "r"]),
        ])

    def test_a_room_of_one(self):
        self.check(1, bare, [(["a"], ["a"]), (["abc"], ["a", "b", "c"]), (["a", "bc", "d"], ["a", "b", "c", "d"])])
        self.check(3, dashed, [(["abc"], ["- a", "  b", "  c"]), (["a", "b"], ["- a", "  b"])])

    def test_words_come_to_their_end_even_without_a_room(self):
        self.check(2, lambda number: "- ", [(["abc", "d"], ["- a", "- b", "- c", "- d"])])

    def test_a_lead(self):
        self.check(6, dashed, [
            (["a"], ["- a"]),
            (["ab", "c"], ["- ab c"]),
            (["ab", "cd"], ["- ab", "  cd"]),
            (["abcd", "e"], ["- abcd", "  e"]),
            (["abcde", "f"], ["- abcd", "  e f"]),
            (["abcdefghi"], ["- abcd", "  efgh", "  i"]),
        ])

    def test_a_lead_that_differs_by_the_number(self):
        self.check(5, growing, [
            (["abcde"], ["abcde"]),
            (["abcdef"], ["abcde", ".f"]),
            (["abcdefghij"], ["abcde", ".fghi", "..j"]),
            (["abcdefghijklmno"], ["abcde", ".fghi", "..jkl", "...mn", "....o"]),
            (["abc", "def", "gh", "ij", "k"], ["abc", ".def", "..gh", "...ij", "....k"]),
            (["a", "bcdef"], ["a", ".bcde", "..f"]),
            (["abcd", "efgh", "ijk"], ["abcd", ".efgh", "..ijk"]),
        ])

    def test_a_lead_that_gives_more_room_further_on(self):
        lead = (lambda number: "####: "[min(number, 5):])
        self.check(7, lead, [
            (["ab", "cd"], ["####: a", "###: b", "##: cd"]),
            (["abcdefgh"], ["####: a", "###: bc", "##: def", "#: gh"]),
        ])

    def test_the_lead_is_handed_whole_numbers_from_0_on(self):
        asked = []

        def lead(number):
            asked.append(number)
            return ""
        rows = filled(["abcdefg", "h", "ij", "klmno"], 3, lead)
        self.assertEqual(rows, ["abc", "def", "g h", "ij", "klm", "no"])
        self.assertEqual(asked, [0, 1, 2, 3, 4, 5])
        self.assertTrue(all(type(number) is int for number in asked))

    def test_against_the_slow_way(self):
        dice = draw("filled")
        for _ in range(3000):
            words = ["x" * dice.choice([1, 1, 2, 3, 4, 5, 9, 20]) for _ in range(dice.randint(0, 8))]
            lengths = [dice.randint(0, 6) for _ in range(200)]
            width = dice.randint(7, 14)
            rows = filled(words, width, lambda number: "." * lengths[number])
            self.assertEqual(rows, filled_sign_by_sign(words, width, lambda number: "." * lengths[number]))
            self.assertTrue(all(len(row) <= width for row in rows))
            self.assertEqual("".join(rows).replace(".", "").replace(" ", ""), "".join(words))

    def test_no_row_ends_with_a_blank(self):
        dice = draw("no blank")
        for _ in range(500):
            words = ["y" * dice.randint(1, 12) for _ in range(dice.randint(0, 9))]
            for lead in [bare, dashed, lambda number: "    "]:
                for row in filled(words, dice.randint(5, 20), lead):
                    self.assertEqual(row, row.rstrip(" "))

    def test_long_words_and_many(self):
        self.assertTrue(filled(["a" * 200_000], 1, bare) == ["a"] * 200_000)
        self.assertTrue(filled(["a"] * 100_000, 199_999, bare) == ["a " * 99_999 + "a"])
        self.assertTrue(filled(["a"] * 100_000, 1, bare) == ["a"] * 100_000)

    def test_the_words_stay_as_they_were_handed_in(self):
        words = ["abcdefgh", "i", "jk"]
        rows = filled(words, 4, bare)
        self.assertEqual(words, ["abcdefgh", "i", "jk"])
        words.append("l")
        self.assertEqual(rows, ["abcd", "efgh", "i jk"])
        rows.append("m")
        self.assertEqual(words, ["abcdefgh", "i", "jk", "l"])
        self.assertEqual(filled(words, 4, bare), ["abcd", "efgh", "i jk", "l"])
