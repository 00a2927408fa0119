"""Points 1 and 12 and columns.py: the shares of a room, and cells side by side."""

import itertools
import unittest

from lightmark.columns import beside, shares
from lightmark.fill import filled
from tests.draws import draw


def shared_one_by_one(wants, room):
    """Point 12 once more, the slow way, to hold the program against."""
    told = list(wants)
    while sum(told) > room:
        told[told.index(max(told))] -= 1
    return told


class Shares(unittest.TestCase):
    def check(self, wants, room, told):
        with self.subTest(wants=wants, room=room):
            self.assertEqual(shares(wants, room), told)
            self.assertIsInstance(shares(wants, room), list)

    def test_wants_that_go_in(self):
        self.check([3, 4], 9, [3, 4])
        self.check([3, 4], 7, [3, 4])
        self.check([1], 1, [1])
        self.check([5], 100, [5])
        self.check([1, 1, 1], 3, [1, 1, 1])

    def test_one_too_many(self):
        self.check([3, 4], 6, [3, 3])
        self.check([4, 3], 6, [3, 3])
        self.check([4, 4], 7, [3, 4])
        self.check([2], 1, [1])
        self.check([1, 2, 1], 3, [1, 1, 1])

    def test_the_first_of_the_widest_gives_way(self):
        self.check([5, 5, 5], 14, [4, 5, 5])
        self.check([5, 5, 5], 13, [4, 4, 5])
        self.check([5, 5, 5], 12, [4, 4, 4])
        self.check([5, 5, 5], 11, [3, 4, 4])
        self.check([2, 9, 4, 9], 20, [2, 7, 4, 7])
        self.check([2, 9, 4, 9], 19, [2, 6, 4, 7])
        self.check([9, 1, 9, 1], 10, [4, 1, 4, 1])
        self.check([10, 3], 9, [6, 3])
        self.check([3, 10], 5, [2, 3])

    def test_a_room_as_small_as_the_count(self):
        self.check([7, 2, 9], 3, [1, 1, 1])
        self.check([100] * 5, 5, [1] * 5)
        self.check([7, 2, 9], 4, [1, 1, 2])

    def test_no_wants(self):
        self.check([], 0, [])
        self.check([], 9, [])

    def test_against_the_slow_way(self):
        for count in [1, 2, 3, 4]:
            for wants in itertools.product(range(1, 7), repeat=count):
                for room in range(count, 6 * count + 2):
                    self.assertEqual(shares(list(wants), room), shared_one_by_one(wants, room))
        dice = draw("shares")
        for _ in range(2000):
            wants = [dice.randint(1, dice.choice([3, 30, 90])) for _ in range(dice.randint(1, 30))]
            room = dice.randint(len(wants), sum(wants) + 3)
            self.assertEqual(shares(wants, room), shared_one_by_one(wants, room))

    def test_wide_wants(self):
        self.check([200_000, 199_999, 1], 100_000, [49_999, 50_000, 1])
        self.check([10 ** 12, 3], 10, [7, 3])

    def test_the_wants_stay_and_the_told_list_is_the_askers_own(self):
        for room in [20, 9, 5]:
            wants = [4, 5]
            told = shares(wants, room)
            self.assertEqual(wants, [4, 5])
            again = list(told)
            told.append(7)
            told[0] = 0
            self.assertEqual(wants, [4, 5])
            self.assertEqual(shares(wants, room), again)
            wants.append(1)
            self.assertEqual(again, shares([4, 5], room))


class Beside(unittest.TestCase):
    def check(self, cells, widths, sides, rows):
        with self.subTest(cells=cells, widths=widths, sides=sides):
            told = beside(cells, widths, sides)
            self.assertEqual(told, rows)
            self.assertIsInstance(told, list)

    def test_one_row(self):
        self.check([["a"], ["b"]], [3, 3], ["left", "left"], ["a   | b"])
        self.check([["a", "b"], ["c"]], [3, 1], ["left", "left"], ["a b | c"])
        self.check([["abc"], ["de"], ["f"]], [3, 2, 1], ["left", "left", "left"], ["abc | de | f"])

    def test_sides(self):
        self.check([["a"], ["b"]], [3, 3], ["right", "left"], ["  a | b"])
        self.check([["a"], ["b"]], [3, 3], ["left", "right"], ["a   |   b"])
        self.check([["a"], ["b"]], [3, 3], ["right", "right"], ["  a |   b"])
        self.check([["abc"], ["abc"]], [3, 3], ["right", "left"], ["abc | abc"])

    def test_cells_of_unlike_lengths(self):
        self.check([["a", "b", "c"], ["d"]], [1, 3], ["left", "left"], ["a | d", "b |", "c |"])
        self.check([["d"], ["a", "b", "c"]], [3, 1], ["left", "left"], ["d   | a", "    | b", "    | c"])
        self.check([["a", "b"], ["d"], ["e", "f", "g"]], [1, 2, 1], ["left", "right", "right"],
                   ["a |  d | e", "b |    | f", "  |    | g"])

    def test_empty_cells(self):
        self.check([[], ["b"]], [2, 2], ["left", "left"], ["   | b"])
        self.check([["a"], []], [2, 2], ["left", "left"], ["a  |"])
        self.check([["a"], [], ["b", "c"]], [1, 1, 1], ["left", "right", "left"], ["a |   | b", "  |   | c"])

    def test_all_cells_empty(self):
        self.check([[], []], [1, 1], ["left", "left"], ["  |"])
        self.check([[], []], [1, 1], ["right", "right"], ["  |"])
        self.check([[], [], []], [2, 1, 4], ["left", "left", "right"], ["   |   |"])
        self.check([[]], [5], ["left"], [""])
        self.check([[]], [5], ["right"], [""])

    def test_words_longer_than_the_width(self):
        self.check([["abcdefg"], ["h"]], [3, 1], ["left", "left"], ["abc | h", "def |", "g   |"])
        self.check([["abcdefg"], ["h"]], [3, 1], ["right", "left"], ["abc | h", "def |", "  g |"])
        self.check([["ab", "cdefg", "h"]], [3], ["right"], [" ab", "cde", " fg", "  h"])
        self.check([["abcd", "e"], ["fg"]], [3, 1], ["left", "left"], ["abc | f", "d e | g"])

    def test_one_cell_alone(self):
        self.check([["a"]], [3], ["left"], ["a"])
        self.check([["a"]], [3], ["right"], ["  a"])
        self.check([["a", "b", "c"]], [3], ["right"], ["a b", "  c"])

    def test_no_row_ends_with_a_blank_and_each_cell_is_filled(self):
        dice = draw("beside")
        for _ in range(2000):
            count = dice.randint(1, 4)
            cells = [["x" * dice.randint(1, 9) for _ in range(dice.choice([0, 1, 2, 5]))] for _ in range(count)]
            widths = [dice.randint(1, 8) for _ in range(count)]
            sides = [dice.choice(["left", "right"]) for _ in range(count)]
            rows = beside(cells, widths, sides)
            columns = [filled(cell, width, lambda number: "") for cell, width in zip(cells, widths)]
            self.assertEqual(len(rows), max(1, max(map(len, columns))))
            for number, row in enumerate(rows):
                self.assertEqual(row, row.rstrip(" "))
                whole = row.ljust(sum(widths) + 3 * (count - 1))
                for column, width, side in zip(columns, widths, sides):
                    text = column[number] if number < len(column) else ""
                    asked = " " * (width - len(text)) + text if side == "right" else text + " " * (width - len(text))
                    self.assertEqual(whole[:width], asked)
                    self.assertIn(whole[width:width + 3], ["", " | "])
                    whole = whole[width + 3:]
                self.assertEqual(whole, "")

    def test_what_is_handed_in_stays_and_what_is_told_is_the_askers_own(self):
        cells, widths, sides = [["abcd", "e"], []], [3, 2], ["left", "right"]
        told = beside(cells, widths, sides)
        self.assertEqual((cells, widths, sides), ([["abcd", "e"], []], [3, 2], ["left", "right"]))
        again = list(told)
        told.clear()
        self.assertEqual(beside(cells, widths, sides), again)
        cells[0].append("f")
        self.assertEqual(again, ["abc |", "d e |"])
