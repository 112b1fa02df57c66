"""What several test files share."""

import unittest

from surelydone.deeds import Deeds
from surelydone.errors import DoneError
from surelydone.hands import Hand
from surelydone.systems import System


def door():
    return Hand(0, [(0, "ask", 1), (1, "open", 0)])


def guard():
    return Hand(0, [(0, "open", 0), (0, "rest", 0)])


def names(many):
    """As many different names: a, b, c .."""
    return [chr(ord("a") + at) for at in range(many)]


def nested(kind, depth):
    """A value of the kind list, tuple or dict that is nested so deep."""
    value = kind()
    for _ in range(depth - 1):
        value = {0: value} if kind is dict else kind([value])
    return value


def round_itself():
    value = []
    value.append(value)
    return value


def deep_values():
    return [nested(list, 450), nested(tuple, 450), nested(dict, 450)]


def other_values():
    """New values of kinds that Python has built in, and objects of the program; none is a row or an integer."""
    return [
        None, True, False, 0.0, 1.0, 1.5, float("nan"), 1j, "", "a", "ask", "ASK", b"ask", bytearray(b"a"),
        {}, {0: 1}, set(), {1}, frozenset(), range(2), slice(1), ..., NotImplemented, object(), int, len,
        lambda: 0, iter([0]), (at for at in range(2)), memoryview(b"a"), {0: 0}.keys(), ValueError("a"),
        nested(dict, 450), door(), System([door()]), Deeds(), Deeds(["ask"]),
    ]


def rows_that_are_wrong_items():
    """New rows, for places where a row is not asked."""
    return [[], (), [0], (0,), ["ask"], ("ask",), round_itself(), nested(list, 450), nested(tuple, 450)]


def bad_names():
    """Values that are no names: strings too long, too short or with other characters, and other kinds."""
    texts = [
        "", "A", "Z", "aB", "a b", " a", "ask ", "a1", "a-b", "a_b", "`", "{", "\n", "a\n", "a\x00", "\u00e9", "\u00df",
        "\u0131", "\uff41", "\ud800", "a" * 13, "a" * 10 ** 6,
    ]
    odd = [value for value in other_values() if not isinstance(value, str)]
    return texts + odd + rows_that_are_wrong_items() + [0, 7, -1, "ASK"]


class Checks(unittest.TestCase):
    """Test cases that also look closely at errors, and at == and != from both sides."""

    def check_error(self, kind, told, call, *passed, **named):
        """Check that the call raises exactly this kind of error, with this very value as its one attribute."""
        with self.assertRaises(DoneError) as caught:
            call(*passed, **named)
        error = caught.exception
        self.assertIs(type(error), kind)
        (found,) = vars(error).values()
        if type(told) is int:
            self.assertIs(type(found), int)
            self.assertEqual(found, told)
        else:
            self.assertIs(found, told)
        return error

    def same(self, one, other):
        self.assertTrue(one == other)
        self.assertTrue(other == one)
        self.assertFalse(one != other)
        self.assertFalse(other != one)

    def different(self, one, other):
        self.assertFalse(one == other)
        self.assertFalse(other == one)
        self.assertTrue(one != other)
        self.assertTrue(other != one)
