"""Point 5, and surelydone/errors.py in the interface."""

import unittest

from surelydone import errors
from surelydone.errors import (
    BadDiligent, BadHands, BadMove, BadRun, BadState, BadStates, BadSteps, BadWords, DoneError, NothingDone,
    TooMany,
)
from tests.helpers import deep_values, other_values, rows_that_are_wrong_items

WITH_VALUE = [BadState, BadDiligent, BadWords, BadStates, BadMove]
WITH_AT = [BadSteps, BadHands, BadRun]
ALL = WITH_VALUE + WITH_AT + [TooMany, NothingDone]


class Classes(unittest.TestCase):
    def test_base_stands_below_value_error(self):
        self.assertEqual(DoneError.__bases__, (ValueError,))

    def test_every_other_class_stands_directly_below_the_base(self):
        for kind in ALL:
            self.assertEqual(kind.__bases__, (DoneError,))
            self.assertEqual(kind.__module__, "surelydone.errors")

    def test_there_are_these_ten_and_no_more(self):
        found = [kind for kind in vars(errors).values() if isinstance(kind, type)]
        self.assertEqual(len(ALL), 10)
        self.assertCountEqual(found, ALL + [DoneError])


class Attributes(unittest.TestCase):
    def test_value_is_the_very_value(self):
        for kind in WITH_VALUE:
            for value in other_values() + rows_that_are_wrong_items():
                self.assertIs(kind(value).value, value)
                self.assertIs(kind(value=value).value, value)
                self.assertEqual(list(vars(kind(value))), ["value"])

    def test_at_is_the_index(self):
        for kind in WITH_AT:
            for at in (-1, 0, 23, 100000):
                self.assertEqual(kind(at).at, at)
                self.assertEqual(kind(at=at).at, at)
                self.assertEqual(list(vars(kind(at))), ["at"])

    def test_limit_is_the_limit(self):
        for limit in (6, 8, 12, 1000):
            self.assertEqual(TooMany(limit).limit, limit)
            self.assertEqual(TooMany(limit=limit).limit, limit)
            self.assertEqual(list(vars(TooMany(limit))), ["limit"])

    def test_nothing_done_has_no_attribute(self):
        self.assertEqual(vars(NothingDone()), {})
        with self.assertRaises(TypeError):
            NothingDone(at=1)

    def test_each_one_attribute_is_asked(self):
        for kind in WITH_VALUE + WITH_AT + [TooMany]:
            with self.assertRaises(TypeError):
                kind()

    def test_shown_as_the_document_writes_them(self):
        self.assertEqual(repr(BadSteps(2)), "BadSteps(2)")
        self.assertEqual(repr(BadMove(("open", (1, 0)))), "BadMove(('open', (1, 0)))")
        self.assertEqual(repr(TooMany(1000)), "TooMany(1000)")
        self.assertEqual(repr(NothingDone()), "NothingDone()")

    def test_errors_of_deep_values_can_be_shown(self):
        for kind in WITH_VALUE:
            for value in deep_values():
                self.assertIn(repr(value), repr(kind(value)))
                self.assertIn(repr(value), str(kind(value)))


if __name__ == "__main__":
    unittest.main()
