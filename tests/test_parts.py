"""The helper parts: strongly connected parts and shortest ways."""

import unittest

from surelydone.parts import shortest_way, strong_parts
from tests.samples import Draw


def reached(following, first):
    found, ahead = {first}, [first]
    while ahead:
        for after in following[ahead.pop()]:
            if after not in found:
                found.add(after)
                ahead.append(after)
    return found


def drawn_places(draw):
    """A few places, with steps between them, also from a place to itself and twice."""
    many = 1 + draw.below(9)
    return {place: [draw.below(many) for _ in range(draw.below(4))] for place in range(many)}


class StrongParts(unittest.TestCase):
    def check_parts(self, following):
        parts = strong_parts(following)
        self.assertEqual(sorted(place for part in parts for place in part), sorted(following))
        behind = {place: reached(following, place) for place in following}
        for at, part in enumerate(parts):
            self.assertNotEqual(part, [])
            for place in part:
                same = {other for other in behind[place] if place in behind[other]}
                self.assertEqual(set(part), same)
                later = {other for row in parts[at + 1:] for other in row}
                self.assertEqual(later & set(following[place]), set())

    def test_small_ones(self):
        self.assertEqual(strong_parts({}), [])
        self.assertEqual(strong_parts({5: []}), [[5]])
        self.assertEqual(strong_parts({5: [5]}), [[5]])
        self.assertEqual(strong_parts({1: [2], 2: [3], 3: []}), [[3], [2], [1]])
        self.assertEqual([sorted(part) for part in strong_parts({1: [2], 2: [1, 3], 3: [3]})], [[3], [1, 2]])

    def test_drawn_places(self):
        draw = Draw(90)
        for _ in range(500):
            self.check_parts(drawn_places(draw))

    def test_long_chains_and_rings(self):
        ring = {place: [(place + 1) % 3000] for place in range(3000)}
        self.assertEqual([sorted(part) for part in strong_parts(ring)], [list(range(3000))])
        chain = {place: [place + 1] if place < 2999 else [] for place in range(3000)}
        self.assertEqual(strong_parts(chain), [[place] for place in range(3000)][::-1])


class ShortestWays(unittest.TestCase):
    def test_shortest_of_several_ways(self):
        ways = {0: [("far", 1), ("near", 3)], 1: [("far", 2)], 2: [("far", 4)], 3: [("near", 4)], 4: [("back", 0)]}
        self.assertEqual(shortest_way(ways, 0, lambda place: place == 4), (("near", "near"), 4))
        self.assertEqual(shortest_way(ways, 0, lambda place: place in (2, 4)), (("far", "far"), 2))
        self.assertEqual(shortest_way(ways, 3, lambda place: place == 2), (("near", "back", "far", "far"), 2))

    def test_no_moves_at_a_goal(self):
        self.assertEqual(shortest_way({0: [("a", 0)]}, 0, lambda place: True), ((), 0))


if __name__ == "__main__":
    unittest.main()
