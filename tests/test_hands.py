"""Points 6 to 8, and points 2 to 4 as far as hands go."""

import unittest

from surelydone.errors import BadState, BadSteps, BadWords, TooMany
from surelydone.hands import Hand
from surelydone.systems import System
from tests.helpers import Checks, bad_names, door, guard, names, other_values, rows_that_are_wrong_items

STEP = (0, "ask", 0)


def bad_states():
    return [-1, 100, 101, -99, 10 ** 30] + other_values() + rows_that_are_wrong_items()


class Makes(Checks):
    def test_attributes(self):
        hand = Hand(4, [(4, "open", 2), (2, "ask", 9), (2, "open", 4)])
        self.assertEqual(hand.start, 4)
        self.assertEqual(hand.steps, ((4, "open", 2), (2, "ask", 9), (2, "open", 4)))
        self.assertEqual(hand.words, ("ask", "open"))
        self.assertEqual(hand.states, (2, 4, 9))
        for row in (hand.steps, hand.words, hand.states):
            self.assertIs(type(row), tuple)

    def test_arguments_by_name_and_as_tuple(self):
        self.assertEqual(Hand(steps=((0, "a", 1),), start=0), Hand(0, [(0, "a", 1)]))

    def test_first_and_last_states(self):
        hand = Hand(99, [(99, "a", 0), (0, "a", 99)])
        self.assertEqual(hand.states, (0, 99))
        self.assertEqual(Hand(0, [(0, "a", 99)]).states, (0, 99))

    def test_shortest_and_longest_names(self):
        self.assertEqual(Hand(0, [(0, "z", 0), (0, "a" * 12, 0)]).words, ("a" * 12, "z"))
        self.assertEqual(Hand(0, [(0, "abcdefghijkl", 0), (0, "mnopqrstuvwx", 0), (0, "yz", 0)]).words,
                         ("abcdefghijkl", "mnopqrstuvwx", "yz"))

    def test_one_step_and_24_steps(self):
        self.assertEqual(len(Hand(0, [STEP]).steps), 1)
        steps = [(state, word, state) for state in range(6) for word in "abcd"]
        self.assertEqual(len(Hand(0, steps).steps), 24)

    def test_four_steps_leave_a_state(self):
        steps = [(0, word, 0) for word in "abcd"]
        self.assertEqual(Hand(0, steps).steps, tuple(steps))

    def test_steps_that_differ_in_one_part(self):
        steps = [(0, "a", 0), (0, "a", 1), (0, "b", 0), (1, "a", 0)]
        self.assertEqual(Hand(0, steps).steps, tuple(steps))

    def test_eight_words_and_eight_states(self):
        self.assertEqual(Hand(0, [(at, word, at + 1) for at, word in enumerate(names(8)[:7])]).states,
                         tuple(range(8)))
        self.assertEqual(len(Hand(0, [(at // 4, word, 0) for at, word in enumerate(names(8))]).words), 8)

    def test_list_is_copied_and_not_changed(self):
        steps = [(0, "a", 1), (1, "b", 0)]
        hand = Hand(0, steps)
        self.assertEqual(steps, [(0, "a", 1), (1, "b", 0)])
        steps.append((5, "c", 5))
        steps[0] = None
        self.assertEqual(hand, Hand(0, [(0, "a", 1), (1, "b", 0)]))
        self.assertEqual(System([hand]).moves((0,)), [("a", (0,))])


class ReachedStates(Checks):
    def test_start_without_steps(self):
        self.assertEqual(Hand(7, [(0, "a", 1)]).states, (7,))

    def test_start_alone_with_a_step_to_itself(self):
        self.assertEqual(Hand(7, [(7, "a", 7)]).states, (7,))

    def test_one_after_the_other(self):
        hand = Hand(3, [(8, "a", 1), (3, "a", 8), (1, "b", 5), (5, "c", 3)])
        self.assertEqual(hand.states, (1, 3, 5, 8))

    def test_steps_that_leave_states_that_are_not_reached(self):
        hand = Hand(0, [(0, "go", 1), (2, "never", 0), (3, "lost", 2), (1, "go", 0)])
        self.assertEqual(hand.states, (0, 1))
        self.assertEqual(hand.words, ("go", "lost", "never"))

    def test_more_than_eight_states_of_which_eight_are_reached(self):
        ring = [(at, "a", (at + 1) % 8) for at in range(8)]
        hand = Hand(0, ring + [(at, "b", 0) for at in range(20, 30)])
        self.assertEqual(hand.states, tuple(range(8)))

    def test_no_state_is_reached_against_the_direction(self):
        self.assertEqual(Hand(1, [(0, "a", 1), (1, "a", 2)]).states, (1, 2))


class WrongStart(Checks):
    def test_values_that_are_no_states(self):
        for start in bad_states():
            self.check_error(BadState, start, Hand, start, [STEP])

    def test_comes_before_wrong_steps(self):
        for steps in (None, [], [STEP, STEP], [(at, "a", at + 1) for at in range(9)]):
            self.check_error(BadState, -1, Hand, -1, steps)


class WrongSteps(Checks):
    def test_values_that_are_no_rows(self):
        for steps in other_values() + [0, 1]:
            self.check_error(BadSteps, -1, Hand, 0, steps)

    def test_no_step_and_25_steps(self):
        steps = [(state, word, state) for state in range(7) for word in "abcd"]
        for wrong in ([], (), steps[:25], tuple(steps[:25]), steps, [None] * 25):
            self.check_error(BadSteps, -1, Hand, 0, wrong)

    def test_items_that_are_no_steps(self):
        items = [[0, "a", 0], (), (0,), (0, "a"), (0, "a", 0, 0), ("a", 0, 0), (0, 0, "a"), ((0, "a", 0),), 0, 5]
        for item in items + other_values() + rows_that_are_wrong_items():
            self.check_error(BadSteps, 0, Hand, 0, [item])
            self.check_error(BadSteps, 1, Hand, 0, (STEP, item, None))

    def test_steps_with_a_wrong_state(self):
        for state in bad_states():
            self.check_error(BadSteps, 1, Hand, 0, [STEP, (state, "a", 0)])
            self.check_error(BadSteps, 2, Hand, 0, [STEP, (0, "a", 1), (0, "a", state), None])

    def test_steps_with_a_wrong_word(self):
        for word in bad_names():
            self.check_error(BadSteps, 1, Hand, 0, [STEP, (0, word, 0)])

    def test_flags_are_no_states_although_python_takes_them_for_equal(self):
        self.check_error(BadSteps, 1, Hand, 0, [(1, "a", 0), (True, "a", 0)])
        self.check_error(BadSteps, 0, Hand, 0, [(0, "a", False)])
        self.check_error(BadSteps, 0, Hand, 0, [(0, "a", 0.0)])

    def test_equal_to_an_earlier_step(self):
        self.check_error(BadSteps, 1, Hand, 0, [STEP, STEP])
        self.check_error(BadSteps, 3, Hand, 0, [STEP, (1, "a", 0), (2, "b", 0), (1, "a", 0), None])
        self.check_error(BadSteps, 2, Hand, 0, [(1, "a", 0), STEP, (0, "a" + "sk", 0)])

    def test_fifth_step_that_leaves_a_state(self):
        self.check_error(BadSteps, 4, Hand, 0, [(0, word, 0) for word in "abcde"])
        mixed = [(3, "a", 0), (0, "a", 0), (3, "b", 0), (3, "a", 1), (0, "b", 0), (3, "a", 3), (0, "c", 0),
                 (3, "z", 9), (3, "y", 9)]
        self.check_error(BadSteps, 7, Hand, 0, mixed)

    def test_the_first_wrong_item_counts(self):
        five = [(0, word, 0) for word in "abcde"]
        self.check_error(BadSteps, 4, Hand, 0, five + [None])
        self.check_error(BadSteps, 2, Hand, 0, [STEP, (0, "a", 1), None] + five)
        self.check_error(BadSteps, 1, Hand, 0, [STEP, STEP, None] + five)

    def test_comes_before_too_many(self):
        words = [(at, word, 0) for at, word in enumerate(names(9))]
        self.check_error(BadSteps, 9, Hand, 0, words + [words[0]])
        states = [(at, "a", at + 1) for at in range(9)]
        self.check_error(BadSteps, 9, Hand, 0, states + [None])


class TooManyOfAHand(Checks):
    def test_nine_words(self):
        steps = [(at, word, 0) for at, word in enumerate(names(9))]
        self.check_error(TooMany, 8, Hand, 0, steps)
        self.check_error(TooMany, 8, Hand, 50, steps)

    def test_nine_reached_states(self):
        ring = [(at, "a", (at + 1) % 9) for at in range(9)]
        for start in (0, 4, 8):
            self.check_error(TooMany, 8, Hand, start, ring)
        self.check_error(TooMany, 8, Hand, 9, [(9, "a", 0)] + [(at, "a", at + 1) for at in range(7)])

    def test_nine_states_of_which_one_is_not_reached(self):
        self.assertEqual(len(Hand(1, [(at, "a", at + 1) for at in range(8)]).states), 8)


class Rings(Checks):
    def test_steps(self):
        hand = Hand.ring(["ask", "open", "rest"])
        self.assertEqual(hand.start, 0)
        self.assertEqual(hand.steps, ((0, "ask", 1), (1, "open", 2), (2, "rest", 0)))
        self.assertEqual(hand.words, ("ask", "open", "rest"))
        self.assertEqual(hand.states, (0, 1, 2))
        self.assertIs(type(hand), Hand)

    def test_one_word_and_eight_words(self):
        self.assertEqual(Hand.ring(("a",)), Hand(0, [(0, "a", 0)]))
        self.assertEqual(Hand.ring(names(8)), Hand(0, [(at, names(8)[at], (at + 1) % 8) for at in range(8)]))
        self.assertEqual(Hand.ring(words=["a"]).steps, ((0, "a", 0),))

    def test_same_name_several_times(self):
        self.assertEqual(Hand.ring(["a", "b", "a"]).steps, ((0, "a", 1), (1, "b", 2), (2, "a", 0)))
        self.assertEqual(Hand.ring(["a"] * 8).words, ("a",))

    def test_list_is_not_changed(self):
        words = ["b", "a"]
        hand = Hand.ring(words)
        self.assertEqual(words, ["b", "a"])
        words[0] = "c"
        self.assertEqual(hand.words, ("a", "b"))

    def test_called_off_an_object(self):
        self.assertEqual(door().ring(["a"]), Hand(0, [(0, "a", 0)]))

    def test_words_that_are_no_row_or_empty(self):
        for words in other_values() + [[], (), 0, 1]:
            self.check_error(BadWords, words, Hand.ring, words)

    def test_items_that_are_no_names(self):
        for item in bad_names():
            self.check_error(BadWords, item, Hand.ring, [item])
            self.check_error(BadWords, item, Hand.ring, ("a", item, None))

    def test_too_many_words(self):
        self.check_error(TooMany, 8, Hand.ring, ["a"] * 9)
        self.check_error(TooMany, 8, Hand.ring, tuple(names(26)))

    def test_a_wrong_name_comes_before_too_many_words(self):
        wrong = "A"
        self.check_error(BadWords, wrong, Hand.ring, ["a"] * 20 + [wrong, None])


class Equal(Checks):
    def test_equal_hands(self):
        self.same(door(), door())
        self.same(Hand(0, ((0, "ask", 1), (1, "open", 0))), door())
        self.same(Hand.ring(["ask", "open"]), door())

    def test_other_start_steps_or_order(self):
        self.different(door(), guard())
        self.different(door(), Hand(1, [(0, "ask", 1), (1, "open", 0)]))
        self.different(door(), Hand(0, [(1, "open", 0), (0, "ask", 1)]))
        self.different(door(), Hand(0, [(0, "ask", 1)]))
        self.different(door(), Hand(0, [(0, "ask", 1), (1, "open", 0), (5, "ask", 5)]))

    def test_equal_to_nothing_else(self):
        hand = door()
        others = [value for value in other_values() if not isinstance(value, Hand)]
        rows = [hand.steps, (hand.start, hand.steps), [hand], (hand,), 0, hand.start]
        for value in others + rows + rows_that_are_wrong_items():
            self.different(hand, value)


if __name__ == "__main__":
    unittest.main()
