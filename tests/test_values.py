"""Points 2 to 4: what integers, states, names and rows are, and that equal calls give equal values."""

import sys
import unittest

from surelydone.deeds import Deeds
from surelydone.desk import Desk
from surelydone.errors import BadDiligent, BadMove, BadRun, BadState, BadStates, BadSteps, BadWords
from surelydone.families import future, revealed
from surelydone.hands import Hand
from surelydone.kinds import is_name, is_row, is_state, is_whole
from surelydone.least import against, least_diligent, least_seen, least_wanted
from surelydone.reveals import is_lasso, is_table, lasso, reveals, table
from surelydone.runs import done_in, end_of, fair_run, is_fair, passed, words_of
from surelydone.systems import System, standings
from tests.helpers import (
    Checks, bad_names, deep_values, door, guard, nested, other_values, rows_that_are_wrong_items,
)


class Kinds(unittest.TestCase):
    def test_integers(self):
        for value in (0, 1, -1, 99, 10 ** 30):
            self.assertIs(is_whole(value), True)
        for value in other_values() + rows_that_are_wrong_items():
            self.assertIs(is_whole(value), False)

    def test_states(self):
        self.assertEqual([value for value in range(-3, 105) if is_state(value)], list(range(100)))
        for value in other_values() + rows_that_are_wrong_items():
            self.assertIs(is_state(value), False)

    def test_names(self):
        for value in ("a", "z", "az", "abcdefghijkl", "mnopqrstuvwx", "yz", "a" * 12):
            self.assertIs(is_name(value), True)
        for value in bad_names():
            self.assertIs(is_name(value), False)

    def test_rows(self):
        for value in rows_that_are_wrong_items():
            self.assertIs(is_row(value), True)
        for value in other_values() + [0, 1]:
            self.assertIs(is_row(value), False)


class Deep(Checks):
    """Arguments that are nested up to 500 deep raise the errors of the document and no other ones."""

    def check_in_little_room(self, check):
        """Check with no more calls left than a deep argument of a caller with a few calls would leave."""
        limit = sys.getrecursionlimit()
        try:
            sys.setrecursionlimit(limit - 400)
            check()
        finally:
            sys.setrecursionlimit(limit)

    def check_everywhere(self):
        system = System([door(), guard()])
        values = deep_values() + [nested(kind, 500) for kind in (list, tuple, dict)]
        for deep in values:
            self.check_error(BadState, deep, Hand, deep, deep)
            self.check_error(BadSteps, 0, Hand, 0, [deep])
            self.check_error(BadSteps, 0, Hand, 0, [(deep, deep, deep)])
            self.check_error(BadSteps, 0, Hand, 0, [(0, deep, 0)])
            self.check_error(BadWords, deep, Hand.ring, [deep])
            self.check_error(BadDiligent, deep, System, [door()], [0, deep])
            self.check_error(BadDiligent, deep, system.with_diligent, (deep, deep))
            for states in (deep, (deep, 0), (0, deep)):
                self.check_error(BadStates, states, system.moves, states)
                self.check_error(BadStates, states, system.able, states)
                self.check_error(BadStates, states, system.started_at, states)
                self.check_error(BadStates, states, system.behind, states, deep)
            for move in (deep, ("rest", deep), (deep, (None, 1)), ("rest", (None, deep)), ("rest", (deep, 1))):
                self.check_error(BadMove, move, system.behind, (0, 0), move)
            self.assertFalse(system == deep)
            self.assertTrue(deep != door())

    def check_deeds(self):
        deeds = Deeds(["ask"])
        for deep in deep_values() + [nested(kind, 500) for kind in (list, tuple, dict)]:
            # A row is looked into; its one item is no name.
            told = deep if isinstance(deep, dict) else deep[0]
            for call in (Deeds, deeds.within, lambda row: deeds | row, lambda row: row & deeds, lambda row: row - deeds):
                self.check_error(BadWords, told, call, deep)
                self.check_error(BadWords, deep, call, ["ask", deep])
            self.assertFalse(deep in deeds)
            self.different(deeds, deep)

    def check_runs_and_questions(self):
        system, ask, rest = System([door(), guard()]), ("ask", (0, None)), ("rest", (None, 1))
        for deep in deep_values() + [nested(kind, 500) for kind in (list, tuple, dict)]:
            at = 0 if isinstance(deep, tuple) else -1
            for call in (end_of, words_of, done_in, fair_run, lambda one, run: list(passed(one, run))):
                self.check_error(BadRun, at, call, system, deep)
                self.check_error(BadRun, 1, call, system, (ask, ("rest", (deep, 1))))
            self.check_error(BadRun, at, is_fair, system, (), deep)
            self.check_error(BadRun, 1, is_fair, system, (rest,), (deep,))
            for thing in [deep, (deep, deep), ([deep], {}), ([((0, 0), deep)], {}), ([((0, 0), ())], {((0, 0), ()): deep}),
                          ((deep,), ()), ((("ask", deep),), ()), ((), (deep,))]:
                self.assertIs(is_table(system, thing, wanted=[]), False)
                self.assertIs(is_lasso(system, thing, wanted=[]), False)
            for call in (reveals, table, lasso):
                self.check_error(BadWords, deep, call, system, seen=[deep], wanted=deep)
                self.check_error(BadWords, deep, call, system, wanted=["ask", deep])

    def check_families_and_desk(self):
        system, desk = System([door(), guard()]), Desk(System([door(), guard()]))
        for deep in deep_values() + [nested(kind, 500) for kind in (list, tuple, dict)]:
            self.check_error(BadWords, deep, revealed, system, ["ask", deep])
            self.check_error(BadRun, 0 if isinstance(deep, tuple) else -1, future, system, deep)
            self.check_error(BadRun, 1, future, system, (("ask", (0, None)), ("rest", (deep, 1))))
            self.check_error(BadWords, deep, least_seen, system, among=[deep], wanted=deep)
            self.check_error(BadWords, deep, least_seen, system, among=[], wanted=[deep])
            self.check_error(BadWords, deep, least_wanted, system, seen=[deep], among=deep)
            self.check_error(BadWords, deep, least_wanted, system, among=[deep])
            for call in (least_diligent, against):
                self.check_error(BadWords, deep, call, system, seen=[deep], wanted=deep)
                self.check_error(BadWords, deep, call, system, wanted=[deep])
            self.check_error(BadDiligent, deep, lambda: desk[deep])
            self.check_error(BadDiligent, deep, desk.choose, [deep])
            self.check_error(BadWords, deep, desk.reveals, wanted=[deep])
            with self.assertRaises(BadDiligent):
                desk[deep] = deep
            with self.assertRaises(BadDiligent):
                desk[0] = deep
            self.assertIs(desk.trying(lambda one: deep), deep)

    def checks(self):
        return [self.check_everywhere, self.check_deeds, self.check_runs_and_questions, self.check_families_and_desk]

    def test_errors_of_deep_values(self):
        for check in self.checks():
            check()

    def test_errors_of_deep_values_in_little_room(self):
        for check in self.checks():
            self.check_in_little_room(check)


class Again(unittest.TestCase):
    def test_equal_calls_give_equal_values(self):
        system = System([door(), guard()], [1])
        for states in ((0, 0), (1, 0)):
            self.assertEqual(system.moves(states), system.moves(tuple(list(states))))
            self.assertEqual(system.able(states), system.able(states))
            self.assertEqual(system.started_at(states), system.started_at(states))
        self.assertEqual(standings(system), standings(system))
        self.assertEqual(system + guard(), System([door(), guard()], [1]) + guard())

    def test_a_call_that_raises_changes_nothing(self):
        system, hand = System([door(), guard()], [1]), door()
        for call, passed in [
            (system.moves, (0,)), (system.able, 5), (system.started_at, (9, 9)), (system.with_diligent, [2]),
            (lambda value: system + value, 5), (lambda value: value + system, System([door()] * 3)),
            (lambda value: system.behind((0, 0), value), ("open", (1, 0))), (hand.ring, []),
        ]:
            with self.assertRaises(ValueError):
                call(passed)
            self.assertEqual(system, System([door(), guard()], [1]))
            self.assertEqual(system.words, ("ask", "open", "rest"))
            self.assertEqual(hand, door())


if __name__ == "__main__":
    unittest.main()
