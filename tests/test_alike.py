"""Points 33 and 34: systems that reveal alike, and questions that part systems."""

import itertools
import unittest

from surelydone.alike import alike, parting
from surelydone.errors import TooMany
from surelydone.hands import Hand
from surelydone.reveals import reveals
from surelydone.systems import System
from tests.helpers import Checks, door, guard
from tests.oracle import answer, done_words, subsets
from tests.samples import (
    Draw, both, drawn_systems, either, lazy, never, pairs_1000, pairs_1001, stuck, widest,
)


def renumbered(hand):
    """The same hand with other numbers for its states."""
    return Hand(99 - hand.start, [(99 - before, word, 99 - after) for before, word, after in hand.steps])


def turned_round(hand):
    """The same hand with its steps in the opposite order."""
    return Hand(hand.start, hand.steps[::-1])


def changed(system, change):
    return System([change(hand) for hand in system.hands], system.diligent)


def other_order(system):
    """The same hands in the opposite order, with the same ones diligent."""
    last = len(system.hands) - 1
    return System(system.hands[::-1], [last - hand for hand in system.diligent])


class Pairs(Checks):
    def check_pair(self, one, other, expected=None):
        """Check what is told of two systems, both ways round, and return the question that parts them."""
        found = parting(one, other)
        self.assertEqual(parting(other, one), found)
        sets = [done_words(system) for system in (one, other)]
        same = sets[0] == sets[1]
        self.assertIs(alike(one, other), same)
        self.assertIs(alike(other, one), same)
        self.assertIs(found is None, same)
        if not same:
            self.check_question(one, other, sets, found)
        if expected is not None:
            self.assertEqual(found, expected)
        return found

    def check_question(self, one, other, sets, found):
        self.assertIs(type(found), tuple)
        seen, wanted = found
        for row in (seen, wanted):
            self.assertIs(type(row), tuple)
            self.assertEqual(list(row), sorted(set(row)))
        self.assertEqual(set(seen) & set(wanted), set())
        self.assertEqual(sorted(seen + wanted), sorted(set(one.words + other.words)))
        single = set(sets[0]) ^ set(sets[1])
        self.assertEqual(seen, min(single, key=lambda words: (len(words), words)))
        for system, done in zip((one, other), sets):
            expected = seen not in done
            self.assertIs(reveals(system, seen=seen, wanted=wanted), expected)
            self.assertIs(answer(system, seen, wanted), expected)

    def test_of_the_example(self):
        self.check_pair(both(), lazy(), (("rest",), ("ask", "open")))

    def check_alike(self, one, other):
        self.assertIs(alike(one, other), True)
        self.assertIs(parting(one, other), None)

    def test_a_system_and_itself(self):
        for system in [both(), lazy(), never(), either()] + list(drawn_systems(20, 90)):
            self.check_alike(system, system)
            self.check_alike(system, System(list(system.hands), list(system.diligent)))

    def test_the_same_hands_in_other_words(self):
        for system in [both(), lazy(), stuck(), either([0])] + list(drawn_systems(40, 91)):
            for other in (changed(system, renumbered), changed(system, turned_round), other_order(system),
                          other_order(changed(changed(system, turned_round), renumbered))):
                self.check_pair(system, other)
                self.check_alike(system, other)

    def test_hands_that_are_put_together_differently(self):
        ring = Hand.ring(["a", "b"])
        self.check_alike(System([ring]), System([ring, Hand.ring(["a", "b", "a", "b"])]))
        self.check_alike(System([ring]), System([Hand.ring(["b", "a"])]))
        self.check_alike(System([door(), guard()]), System([guard(), door(), guard()], [0, 1]))

    def test_systems_with_different_words(self):
        self.check_pair(System([Hand.ring(["a"])]), System([Hand.ring(["b"])]), (("a",), ("b",)))
        self.check_pair(System([Hand.ring(["a", "c"])]), System([Hand.ring(["b"])]), (("b",), ("a", "c")))
        self.check_pair(both(), either(), (("ask", "open"), ("left", "rest", "right", "wave")))

    def test_words_that_no_fair_run_does_make_no_difference(self):
        less = System([Hand(0, [(0, "a", 0)])])
        more = System([Hand(0, [(0, "a", 0), (1, "b", 0)])])
        self.check_pair(less, more)
        self.check_alike(less, more)
        self.check_alike(never(), System([Hand(0, [(1, "z", 0)])]))
        self.check_pair(more, System([Hand.ring(["c"])]), (("a",), ("b", "c")))

    def test_the_empty_set_comes_first(self):
        self.check_pair(never(), both(), ((), ("a", "ask", "b", "open", "rest")))
        self.check_pair(both(), both().with_diligent([]), ((), ("ask", "open", "rest")))
        self.check_pair(lazy().with_diligent([]), lazy(), ((), ("ask", "open", "rest")))

    def test_the_first_set_by_length_then_ascending(self):
        one = System([Hand(0, [(0, "b", 1), (0, "a", 2), (2, "c", 3)])])
        other = System([Hand(0, [(0, "d", 1), (0, "a", 2), (2, "b", 3)])])
        self.check_pair(one, other, (("b",), ("a", "c", "d")))
        one = System([Hand(0, [(0, "c", 1), (1, "b", 2)]), Hand(0, [(0, "a", 1)])])
        other = System([Hand(0, [(0, "z", 1), (1, "b", 2)])])
        self.check_pair(one, other, (("b", "z"), ("a", "c")))
        # The first set of the one is also a set of the other, so a later one parts them.
        self.check_pair(System([Hand(0, [(0, "a", 1), (0, "b", 2)])]), System([Hand(0, [(0, "a", 1), (0, "c", 2)])]),
                        (("b",), ("a", "c")))

    def test_diligence(self):
        self.check_pair(either(), either([0]), (("left",), ("right", "wave")))
        self.check_pair(either([1]), either([0]), (("left",), ("right", "wave")))
        self.check_pair(stuck(), stuck().with_diligent([0]), (("ask",), ("open", "rest")))

    def test_drawn_pairs(self):
        same = 0
        systems = list(drawn_systems(40, 92))
        draw = Draw(93)
        for system in systems:
            other = draw.of(systems)
            same += self.check_pair(system, other) is None
            chosen = [hand for hand in range(len(system.hands)) if draw.below(2)]
            same += self.check_pair(system, system.with_diligent(chosen)) is None
        self.assertTrue(10 < same < 70)

    def test_systems_are_alike_exactly_if_they_answer_every_question_alike(self):
        draw = Draw(94)
        rows = subsets("abc")
        told = {True: 0, False: 0}
        for at in range(150):
            one, other = [
                System([Hand(0, sorted({(draw.below(2), draw.of("abc"), draw.below(2)) for _ in range(3)})),
                        Hand.ring([draw.of("abc")])], draw.of([None, [], [0], [1]]))
                for _ in range(2)
            ]
            if at % 2:
                other = one.with_diligent(draw.of([None, [0], [1]]))
            same = all(
                reveals(one, seen=seen, wanted=wanted) is reveals(other, seen=seen, wanted=wanted)
                for seen, wanted in itertools.product(rows, rows)
            )
            self.assertIs(alike(one, other), same)
            told[same] += 1
        self.assertGreater(min(told.values()), 20)

    def test_arguments_by_their_names(self):
        self.assertIs(alike(one=both(), other=lazy()), False)
        self.assertIs(alike(other=both(), one=both()), True)
        self.assertEqual(parting(other=lazy(), one=both()), (("rest",), ("ask", "open")))
        self.assertIsNone(parting(one=both(), other=both()))

    def test_too_many_in_one_of_the_two(self):
        for call in (alike, parting):
            for wide in (pairs_1001(), pairs_1001([]), widest()):
                self.check_error(TooMany, 1000, call, wide, both())
                self.check_error(TooMany, 1000, call, both(), wide)
                self.check_error(TooMany, 1000, call, wide, wide)
                self.check_error(TooMany, 1000, call, pairs_1000(), wide)
        self.assertIs(alike(pairs_1000(), pairs_1000([0, 1, 2, 3])), True)
        self.assertIsNone(parting(pairs_1000(), pairs_1000()))
        self.assertEqual(parting(pairs_1000(), pairs_1000([1])), (("b",), ("a", "c", "d")))


if __name__ == "__main__":
    unittest.main()
