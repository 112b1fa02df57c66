"""Point 11: systems that are put together, systems that are equal, and the standings of a system."""

import unittest

from surelydone.errors import BadHands, TooMany
from surelydone.hands import Hand
from surelydone.systems import System, standings
from tests.helpers import Checks, door, guard, names, other_values, rows_that_are_wrong_items
from tests.samples import exactly_1000, exactly_1001, ring_of, widest


def plus(one, other):
    return one + other


class Plus(Checks):
    def test_system_and_system(self):
        one, other = System([door(), guard()], [1]), System([guard(), door()], [0])
        self.assertEqual(one + other, System([door(), guard(), guard(), door()], [1, 2]))
        self.assertEqual(other + one, System([guard(), door(), door(), guard()], [0, 3]))
        self.assertEqual(one + System([door()], []), System([door(), guard(), door()], [1]))
        self.assertEqual(System([door()], []) + one, System([door(), door(), guard()], [2]))

    def test_system_and_hand(self):
        lazy = System([door()], [])
        self.assertEqual(lazy + guard(), System([door(), guard()], [1]))
        self.assertEqual(guard() + lazy, System([guard(), door()], [0]))
        self.assertEqual(System([door()]) + guard(), System([door(), guard()]))
        self.assertIs(type(guard() + lazy), System)

    def test_several_signs(self):
        self.assertEqual(door() + System([guard()], []) + door(), System([door(), guard(), door()], [0, 2]))
        system = System([door()], [])
        whole = system
        whole += guard()
        self.assertEqual(whole, System([door(), guard()], [1]))
        self.assertEqual(system, System([door()], []))

    def test_operands_are_not_changed(self):
        one, other, hand = System([door()], []), System([guard()]), door()
        one + other + hand
        self.assertEqual((one, other, hand), (System([door()], []), System([guard()]), door()))

    def test_the_system_with_itself(self):
        system = System([door(), guard()], [1])
        self.assertEqual(system + system, System([door(), guard(), door(), guard()], [1, 3]))

    def test_more_than_four_hands(self):
        three, two, four = System([door()] * 3), System([guard()] * 2), System([door()] * 4)
        for one, other in [(three, two), (two, three), (four, door()), (door(), four), (four, four)]:
            self.check_error(BadHands, -1, plus, one, other)
        self.assertEqual(len((three + door()).hands), 4)

    def test_other_values_on_either_side(self):
        system = System([door()])
        others = [value for value in other_values() if not isinstance(value, (Hand, System))]
        for value in others + rows_that_are_wrong_items() + [0, 1, [door()], (door(),), door().steps]:
            self.check_error(BadHands, -1, plus, system, value)
            self.check_error(BadHands, -1, plus, value, system)

    def test_twelve_and_thirteen_words(self):
        letters = names(13)
        six, seven, other = Hand.ring(letters[:6]), Hand.ring(letters[6:]), Hand.ring(letters[6:12])
        self.assertEqual((System([six]) + other).words, tuple(letters[:12]))
        self.assertEqual((six + System([other])).words, tuple(letters[:12]))
        for one, two in [(System([six]), System([seven])), (System([six]), seven), (seven, System([six]))]:
            self.check_error(TooMany, 12, plus, one, two)

    def test_too_many_hands_come_before_too_many_words(self):
        letters = names(13)
        six, seven = System([Hand.ring(letters[:6])] * 3), System([Hand.ring(letters[6:])] * 2)
        self.check_error(BadHands, -1, plus, six, seven)


class Equal(Checks):
    def test_equal_systems(self):
        self.same(System([door(), guard()]), System((door(), guard()), [1, 0]))
        self.same(System([door(), guard()], []), System((door(), guard()), ()))

    def test_other_hands_order_or_diligent_hands(self):
        system = System([door(), guard()], [1])
        self.different(system, System([guard(), door()], [1]))
        self.different(system, System([guard(), door()], [0]))
        self.different(system, System([door(), guard()], [0]))
        self.different(system, System([door(), guard()], []))
        self.different(system, System([door(), guard()]))
        self.different(system, System([door(), guard(), door()], [1]))
        self.different(system, System([door(), Hand(0, [(0, "rest", 0), (0, "open", 0)])], [1]))

    def test_equal_to_nothing_else(self):
        system = System([guard()])
        rows = [guard(), [guard()], (guard(),), ((guard(),), (0,)), system.hands, system.words, system.start, 0]
        for value in other_values() + rows_that_are_wrong_items() + rows:
            self.different(system, value)


class Standings(Checks):
    def test_the_standings_of_the_example(self):
        self.assertEqual(standings(System([door(), guard()])), [(0, 0), (1, 0)])
        self.assertEqual(standings(system=System([door(), guard()], [1])), [(0, 0), (1, 0)])

    def test_start_alone(self):
        self.assertEqual(standings(System([Hand(7, [(0, "a", 1)])])), [(7,)])
        self.assertEqual(standings(System([Hand(7, [(7, "a", 7)])])), [(7,)])

    def test_ascending_whatever_the_way(self):
        hand = Hand(5, [(5, "a", 30), (30, "a", 2), (2, "a", 10), (10, "a", 5)])
        self.assertEqual(standings(System([hand])), [(2,), (5,), (10,), (30,)])
        other = Hand(1, [(1, "b", 0)])
        self.assertEqual(standings(System([hand, other])),
                         [(state, last) for state in (2, 5, 10, 30) for last in (0, 1)])

    def test_only_what_runs_meet(self):
        self.assertEqual(standings(System([door(), door()])), [(0, 0), (1, 1)])
        stuck = System([door(), Hand(0, [(0, "rest", 0), (1, "open", 0)])])
        self.assertEqual(standings(stuck), [(0, 0), (1, 0)])
        self.assertEqual(standings(stuck.started_at((1, 0))), [(1, 0)])

    def test_each_of_several_moves_with_one_word(self):
        hand = Hand(0, [(0, "a", 1), (0, "a", 2), (0, "a", 3)])
        self.assertEqual(standings(System([hand, hand])),
                         [(0, 0)] + [(one, other) for one in (1, 2, 3) for other in (1, 2, 3)])

    def test_exactly_1000(self):
        found = standings(System([ring_of("a", 8), ring_of("b", 5), ring_of("c", 5), ring_of("d", 5)], []))
        self.assertEqual(len(found), 1000)
        self.assertEqual(found, sorted(found))

    def test_more_than_1000(self):
        wide = System([ring_of("a", 8), ring_of("b", 8), ring_of("c", 8), ring_of("d", 2)])
        self.check_error(TooMany, 1000, standings, wide)
        self.check_error(TooMany, 1000, standings, widest())

    def test_1000_and_1001(self):
        self.assertEqual(len(standings(exactly_1000())), 1000)
        self.check_error(TooMany, 1000, standings, exactly_1001())
        self.assertEqual(len(standings(exactly_1001().started_at((90, 90, 0, 0)))), 20)

    def test_many_moves_at_each_standing(self):
        steps = [(state, "a", (state + by) % 5) for state in range(5) for by in range(4)]
        found = standings(System([Hand(0, steps)] * 4))
        self.assertEqual(len(found), 625)


if __name__ == "__main__":
    unittest.main()
