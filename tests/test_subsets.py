"""The helper subsets: subsets, and the least and the greatest ones of a kind."""

import unittest

from surelydone.subsets import by_length, greatest_sets_short, has_all, has_any, least_sets, subsets_of
from tests.oracle import greatest_short, least, subsets
from tests.samples import Draw


class Subsets(unittest.TestCase):
    def test_has_all_and_has_any(self):
        for row, items, whole, part in [
            ("ab", "", True, False), ("", "", True, False), ("ab", "a", True, True), ("ab", "bc", False, True),
            ("ab", "cd", False, False), ("", "a", False, False), ("ab", "ba", True, True),
        ]:
            self.assertIs(has_all(tuple(row), tuple(items)), whole)
            self.assertIs(has_any(tuple(row), tuple(items)), part)

    def test_by_length(self):
        self.assertEqual(by_length([(2,), (1, 3), (1, 2), (), (1,)]), [(), (1,), (2,), (1, 2), (1, 3)])

    def test_all_subsets_in_their_order(self):
        self.assertEqual(subsets_of(()), [()])
        self.assertEqual(subsets_of((0, 2)), [(), (0,), (2,), (0, 2)])
        for many in range(7):
            self.assertEqual(subsets_of(tuple(range(many))), subsets(range(many)))

    def test_least_and_greatest(self):
        draw = Draw(120)
        for many in range(6):
            items = tuple("abcdef"[:many])
            for _ in range(60):
                needed = [set(draw.some(items, 3)) for _ in range(draw.below(4))]

                def is_enough(chosen):
                    return any(row <= set(chosen) for row in needed)

                self.assertEqual(least_sets(items, is_enough), least(items, is_enough))
                self.assertEqual(greatest_sets_short(items, is_enough), greatest_short(items, is_enough))


if __name__ == "__main__":
    unittest.main()
