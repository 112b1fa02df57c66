"""Points 9 and 10, and points 2 to 4 as far as systems go."""

import itertools
import unittest

from surelydone.errors import BadDiligent, BadHands, BadMove, BadStates, TooMany
from surelydone.hands import Hand
from surelydone.systems import System, standings
from tests.helpers import Checks, door, guard, names, other_values, rows_that_are_wrong_items
from tests.oracle import moves_at
from tests.samples import all_standings, both, crowd, shapes, stuck


class Makes(Checks):
    def test_attributes(self):
        hands = [door(), guard(), Hand(8, [(8, "ask", 8), (2, "never", 2)])]
        system = System(hands, [2, 0])
        self.assertEqual(system.hands, tuple(hands))
        self.assertEqual(system.diligent, (0, 2))
        self.assertEqual(system.words, ("ask", "never", "open", "rest"))
        self.assertEqual(system.start, (0, 0, 8))
        for row in (system.hands, system.diligent, system.words, system.start):
            self.assertIs(type(row), tuple)

    def test_one_hand_and_four_hands(self):
        self.assertEqual(System([door()]).hands, (door(),))
        self.assertEqual(System((door(), guard(), door(), guard())).start, (0, 0, 0, 0))

    def test_same_hand_several_times(self):
        hand = door()
        system = System([hand] * 4)
        self.assertEqual(system.hands, (hand, hand, hand, hand))
        self.assertEqual(system.words, ("ask", "open"))
        self.assertEqual(system.moves((0, 0, 0, 0)), [("ask", (0, 0, 0, 0))])
        self.assertEqual(system.able((0, 0, 1, 0)), [])

    def test_diligent_hands(self):
        hands = [door(), guard(), door()]
        for diligent, found in [
            (None, (0, 1, 2)), ([], ()), ((), ()), ([1], (1,)), ((2, 0), (0, 2)), ([2, 1, 0], (0, 1, 2)),
            ((1, 0, 2), (0, 1, 2)),
        ]:
            self.assertEqual(System(hands, diligent).diligent, found)
            self.assertEqual(System(hands=hands, diligent=diligent).diligent, found)
        self.assertEqual(System(hands).diligent, (0, 1, 2))

    def test_twelve_words(self):
        letters = names(12)
        system = System([Hand.ring(letters[6:]), Hand.ring(letters[:6]), Hand.ring(letters[3:9])])
        self.assertEqual(system.words, tuple(letters))

    def test_lists_are_copied_and_not_changed(self):
        hands, diligent = [door(), guard()], [1, 0]
        system = System(hands, diligent)
        self.assertEqual(hands, [door(), guard()])
        self.assertEqual(diligent, [1, 0])
        hands.append(door())
        hands[0] = None
        diligent.pop()
        self.assertEqual(system, both())
        self.assertEqual(system.moves((0, 0)), [("ask", (0, None)), ("rest", (None, 1))])


class WrongSystems(Checks):
    def test_hands_that_are_no_row(self):
        for hands in other_values() + [0, 1]:
            self.check_error(BadHands, -1, System, hands)

    def test_no_hands_and_five_hands(self):
        for hands in ([], (), [door()] * 5, (guard(),) * 6, [None] * 5):
            self.check_error(BadHands, -1, System, hands)

    def test_items_that_are_no_hands(self):
        items = [value for value in other_values() if not isinstance(value, Hand)]
        for item in items + rows_that_are_wrong_items() + [0, (0, door().steps), [door()]]:
            self.check_error(BadHands, 0, System, [item])
            self.check_error(BadHands, 2, System, (door(), guard(), item, None))

    def test_diligent_that_is_no_row(self):
        for diligent in other_values()[1:] + [0, 1]:
            self.check_error(BadDiligent, diligent, System, [door(), guard()], diligent)

    def test_diligent_items_that_are_no_indexes(self):
        items = other_values() + rows_that_are_wrong_items() + [-1, -2, 2, 3, 10 ** 30]
        for item in items:
            self.check_error(BadDiligent, item, System, [door(), guard()], [item])
            self.check_error(BadDiligent, item, System, [door(), guard()], (1, item, 0, "no"))

    def test_a_diligent_hand_twice(self):
        hands = [door(), guard(), door()]
        self.check_error(BadDiligent, 1, System, hands, [1, 1])
        self.check_error(BadDiligent, 2, System, hands, [2, 0, 2, 0, 7])
        self.check_error(BadDiligent, 7, System, hands, [2, 0, 7, 2])

    def test_flags_are_no_indexes(self):
        self.check_error(BadDiligent, True, System, [door(), guard()], [1, True])
        self.check_error(BadDiligent, False, System, [door(), guard()], [False])

    def test_thirteen_words(self):
        letters = names(13)
        hands = [Hand.ring(letters[:8]), Hand.ring(letters[5:])]
        self.check_error(TooMany, 12, System, hands)
        self.check_error(TooMany, 12, System, hands, [])

    def test_order_of_the_errors(self):
        many = [Hand.ring(names(8)), Hand.ring(names(16)[8:])]
        self.check_error(BadHands, -1, System, [], 5)
        self.check_error(BadHands, -1, System, many * 3, [9])
        self.check_error(BadHands, 2, System, many + [None], 5)
        self.check_error(BadHands, 0, System, [None, 7], [-1])
        self.check_error(BadDiligent, "ask", System, many, "ask")
        self.check_error(BadDiligent, 2, System, many, [0, 2])


class Moves(Checks):
    def test_the_moves_of_the_example(self):
        self.assertEqual(both().moves((0, 0)), [("ask", (0, None)), ("rest", (None, 1))])
        self.assertEqual(both().moves((1, 0)), [("open", (1, 0)), ("rest", (None, 1))])

    def test_several_moves_with_one_word_in_order(self):
        self.assertEqual(crowd().moves((0, 5, 1)), [
            ("a", (1, 4, None)), ("a", (1, 5, None)),
            ("b", (0, 0, None)), ("b", (0, 1, None)), ("b", (3, 0, None)), ("b", (3, 1, None)),
            ("b", (5, 0, None)), ("b", (5, 1, None)),
            ("e", (None, None, 0)), ("e", (None, None, 3)),
        ])

    def test_numbers_are_ordered_as_numbers(self):
        steps = [(1, word, 0) for word in "abcd"] + [(state, word, 0) for state in (2, 3) for word in "abc"]
        hand = Hand(0, steps[:9] + [(0, "z", 0), (4, "z", 1), (0, "z", 1), (0, "y", 1)])
        self.assertEqual(System([hand]).moves((0,)), [("y", (12,)), ("z", (9,)), ("z", (11,))])

    def test_word_that_a_hand_has_and_can_never_do(self):
        self.assertEqual(stuck().moves((1, 0)), [("rest", (None, 0))])
        self.assertEqual(stuck().able((1, 0)), [1])

    def test_standings_that_runs_do_not_meet(self):
        system = System([door(), door()])
        self.assertEqual(standings(system), [(0, 0), (1, 1)])
        self.assertEqual(system.moves((0, 1)), [])
        self.assertEqual(system.able((0, 1)), [])
        self.assertEqual(crowd().moves((2, 6, 2)), [("b", (4, 3, None)), ("d", (None, 2, 1))])
        self.assertEqual(crowd().behind((2, 6, 2), ("d", (None, 2, 1))), (2, 5, 1))
        self.assertEqual(crowd().able((2, 6, 2)), [0, 1, 2])

    def test_no_moves(self):
        system = System([Hand(3, [(0, "a", 1)])])
        self.assertEqual(system.moves((3,)), [])
        self.assertEqual(system.able((3,)), [])

    def test_all_moves_of_many_systems(self):
        for system in shapes():
            for states in all_standings(system):
                self.assertEqual(system.moves(states), moves_at(system, states))

    def test_list_belongs_to_the_caller(self):
        system = both()
        system.moves((0, 0)).clear()
        system.able((0, 0)).append(7)
        standings(system).append(7)
        self.assertEqual(system.moves((0, 0)), [("ask", (0, None)), ("rest", (None, 1))])
        self.assertEqual(system.able((0, 0)), [0, 1])
        self.assertEqual(standings(system), [(0, 0), (1, 0)])

    def test_kinds_of_values(self):
        found = both().moves(states=(1, 0))
        self.assertIs(type(found), list)
        for word, numbers in found:
            self.assertIs(type(word), str)
            self.assertIs(type(numbers), tuple)


class Behind(Checks):
    def test_where_moves_lead(self):
        self.assertEqual(both().behind((0, 0), ("ask", (0, None))), (1, 0))
        self.assertEqual(both().behind((0, 0), ("rest", (None, 1))), (0, 0))
        self.assertEqual(both().behind((1, 0), ("open", (1, 0))), (0, 0))
        self.assertEqual(crowd().behind(states=(0, 5, 1), move=("b", (5, 1, None))), (2, 6, 1))

    def test_all_moves_of_many_systems(self):
        for system in shapes():
            for states in all_standings(system):
                for move in system.moves(states):
                    led = [
                        state if number is None else hand.steps[number][2]
                        for hand, state, number in zip(system.hands, states, move[1])
                    ]
                    self.assertEqual(system.behind(states, move), tuple(led))

    def test_only_the_moves_at_the_standing_are_moves(self):
        for system in shapes():
            places = all_standings(system)
            told = {states: system.moves(states) for states in places}
            for states in places:
                for move in itertools.chain(*told.values()):
                    if move in told[states]:
                        self.assertIn(system.behind(states, move), places)
                    else:
                        self.check_error(BadMove, move, system.behind, states, move)

    def test_moves_in_which_one_part_is_wrong(self):
        one, good = both(), ("open", (1, 0))
        self.assertEqual(one.behind((1, 0), good), (0, 0))
        numbers = [
            (0, 0), (1, 1), (None, 0), (1, None), (None, None), (True, 0), (1, False), (1.0, 0), (1, 0.0), (2, 0),
            (-1, 0), (1, -2), (1,), (1, 0, None), (1, 0, 0), (), [1, 0], "10", None, 1, ((1, 0),), ("1", 0),
            ((1,), 0), ([1], 0),
        ]
        words = ["ask", "rest", "opens", "Open", "", None, 1, b"open", ["open"], ("open",), "zzz", True]
        wrong = [("open", part) for part in numbers] + [(word, (1, 0)) for word in words]
        wrong += [["open", (1, 0)], ("open",), ("open", (1, 0), 0), ("open", 1, 0), ((1, 0), "open"), (good,), ()]
        wrong += [("ask", (0, None)), ("rest", (None, 0)), ("rest", (0, 1)), ("rest", (None, True))]
        for move in wrong + other_values() + rows_that_are_wrong_items():
            self.check_error(BadMove, move, one.behind, (1, 0), move)

    def test_moves_with_parts_of_other_kinds(self):
        for part in other_values() + rows_that_are_wrong_items():
            for move in [("open", part), ("open", (part, 0)), ("open", (1, part)), (part, (1, 0)), (part, part)]:
                self.check_error(BadMove, move, both().behind, (1, 0), move)

    def test_a_word_that_no_hand_has_is_no_move_without_hands(self):
        for word in ["zzz", "opens", "", "OPEN", None, 0, b"open", ("open",)]:
            self.check_error(BadMove, move := (word, (None, None)), both().behind, (1, 0), move)

    def test_none_where_a_hand_has_the_word(self):
        self.check_error(BadMove, move := ("open", (1, None)), stuck().behind, (1, 0), move)
        self.check_error(BadMove, move := ("open", (1, 1)), stuck().behind, (1, 0), move)

    def test_a_wrong_standing_comes_before_a_wrong_move(self):
        for states in ((0, 1), [1, 0], None, (True, 0)):
            self.check_error(BadStates, states, both().behind, states, None)


class WrongStandings(Checks):
    def check_all(self, system, states):
        for call in (system.moves, system.able, system.started_at):
            self.check_error(BadStates, states, call, states)
        self.check_error(BadStates, states, system.behind, states, ("rest", (None, 1)))

    def test_standings_in_which_one_part_is_wrong(self):
        wrong = [
            (2, 0), (0, 1), (-1, 0), (0, 100), (True, 0), (1, False), (0.0, 0), (0, 0.0), (0, None), ("0", 0),
            (0,), (0, 0, 0), (), [0, 0], [1, 0], "00", None, 0, ((0, 0),), ([0], 0), (0, (0,)), (10 ** 30, 0),
        ]
        for states in wrong:
            self.check_all(both(), states)

    def test_other_kinds(self):
        for value in other_values() + rows_that_are_wrong_items():
            self.check_all(both(), value)
            self.check_all(both(), (value, 0))
            self.check_all(both(), (0, value))

    def test_states_that_are_not_reached(self):
        hand = Hand(0, [(0, "a", 1), (2, "a", 0)])
        for states in ((2,), (3,)):
            self.check_all(System([hand]), states)


class Able(Checks):
    def test_the_hands_of_the_example(self):
        lazy = System([door(), guard()], [1])
        for system in (both(), lazy):
            for states in ((0, 0), (1, 0)):
                self.assertEqual(system.able(states), [0, 1])

    def test_hands_that_are_not_able(self):
        system = System([door(), Hand(0, [(0, "open", 1)]), Hand.ring(["rest"])], [])
        self.assertEqual(system.able((0, 0, 0)), [0, 2])
        self.assertEqual(system.able((1, 0, 0)), [0, 1, 2])
        self.assertEqual(system.able(states=(1, 1, 0)), [2])

    def test_all_of_many_systems(self):
        for system in shapes():
            for states in all_standings(system):
                taken = [numbers for word, numbers in moves_at(system, states)]
                able = [at for at in range(len(system.hands)) if any(numbers[at] is not None for numbers in taken)]
                self.assertEqual(system.able(states), able)


class WithDiligent(Checks):
    def test_same_hands_and_other_diligent_hands(self):
        system = System([door(), guard(), door()], [1])
        for row, found in [([2, 0], (0, 2)), ((), ()), (None, (0, 1, 2)), ((1,), (1,))]:
            other = system.with_diligent(row)
            self.assertEqual(other, System([door(), guard(), door()], row))
            self.assertEqual(other.diligent, found)
        self.assertEqual(system.with_diligent(row=[0]).diligent, (0,))
        self.assertEqual(system.diligent, (1,))

    def test_wrong_rows(self):
        for row in other_values()[1:] + [0]:
            self.check_error(BadDiligent, row, both().with_diligent, row)
        for item in other_values() + rows_that_are_wrong_items() + [2, -1]:
            self.check_error(BadDiligent, item, both().with_diligent, [0, item])
        self.check_error(BadDiligent, 1, both().with_diligent, (1, 1))

    def test_list_is_copied_and_not_changed(self):
        row = [1, 0]
        system = both().with_diligent(row)
        self.assertEqual(row, [1, 0])
        row.clear()
        self.assertEqual(system.diligent, (0, 1))


class StartedAt(Checks):
    def test_other_starts_and_all_else_the_same(self):
        system = crowd()
        other = system.started_at((2, 6, 1))
        self.assertEqual(other.start, (2, 6, 1))
        self.assertEqual(other.diligent, (0, 2))
        self.assertEqual([hand.steps for hand in other.hands], [hand.steps for hand in system.hands])
        self.assertEqual([hand.start for hand in other.hands], [2, 6, 1])
        self.assertEqual(system, crowd())

    def test_reached_states_are_those_from_the_new_start(self):
        system = System([Hand(0, [(0, "a", 1), (1, "b", 1)])], [])
        other = system.started_at(states=(1,))
        self.assertEqual(other, System([Hand(1, [(0, "a", 1), (1, "b", 1)])], []))
        self.assertEqual(other.hands[0].states, (1,))
        self.assertEqual(other.words, ("a", "b"))
        self.check_error(BadStates, states := (0,), other.moves, states)

    def test_the_start_itself_and_a_standing_that_is_not_met(self):
        self.assertEqual(both().started_at((0, 0)), both())
        self.assertEqual(System([door(), door()]).started_at((0, 1)).start, (0, 1))


if __name__ == "__main__":
    unittest.main()
