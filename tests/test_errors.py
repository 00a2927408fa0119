"""Point 1 and errors.py: the classes of the refusals."""

import unittest

from lightmark import errors
from lightmark.errors import BadName, BadText, BadTree, BadWidth, MarkError, OutOfPlace

REFUSALS = [BadText, BadName, BadTree, OutOfPlace, BadWidth]


class ErrorClasses(unittest.TestCase):
    def test_mark_error_stands_straight_under_value_error(self):
        self.assertEqual(MarkError.__bases__, (ValueError,))

    def test_each_refusal_stands_straight_under_mark_error(self):
        for refusal in REFUSALS:
            with self.subTest(refusal=refusal.__name__):
                self.assertEqual(refusal.__bases__, (MarkError,))

    def test_no_refusal_stands_under_another(self):
        for one in REFUSALS:
            for other in REFUSALS:
                with self.subTest(one=one.__name__, other=other.__name__):
                    self.assertEqual(issubclass(one, other), one is other)

    def test_each_has_its_own_name(self):
        told = [refusal.__name__ for refusal in [MarkError] + REFUSALS]
        self.assertEqual(told, ["MarkError", "BadText", "BadName", "BadTree", "OutOfPlace", "BadWidth"])

    def test_there_are_no_others(self):
        held = [thing for thing in vars(errors).values() if isinstance(thing, type)]
        self.assertEqual(set(held), set([MarkError] + REFUSALS))

    def test_each_is_raised_with_words_and_caught_as_its_bases(self):
        for refusal in REFUSALS:
            for base in [refusal, MarkError, ValueError]:
                with self.subTest(refusal=refusal.__name__, base=base.__name__):
                    with self.assertRaises(base) as caught:
                        raise refusal("why")
                    self.assertEqual(str(caught.exception), "why")
