"""Point 14, and points 3 to 5 as far as runs go."""

import inspect
import unittest

from surelydone.deeds import Deeds
from surelydone.errors import BadRun
from surelydone.hands import Hand
from surelydone.runs import done_in, end_of, fair_run, is_fair, passed, words_of
from surelydone.systems import System
from tests.helpers import Checks, deep_values, door, guard, nested, other_values, rows_that_are_wrong_items
from tests.oracle import walk
from tests.samples import Draw, both, crowd, drawn_run, drawn_systems, lazy, stuck

ASK, OPEN, REST = ("ask", (0, None)), ("open", (1, 0)), ("rest", (None, 1))


def first_passed(system, run):
    """What one gets first who iterates over the standings of a run."""
    for states in passed(system, run):
        return states


CALLS = [end_of, words_of, done_in, first_passed, fair_run, lambda system, run: list(passed(system, run))]


def wrong_moves():
    """Values that are no moves of `both` at its start; the values of point 10's form come first."""
    numbers = [
        (1, None), (None, None), (None, 0), (0, 0), (False, None), (0.0, None), (0,), (0, None, None), (), [0, None],
        None, 0, "0", ((0, None),), ("0", None), ([0], None), (-2, None), (2, None), (0, False),
    ]
    moves = [OPEN, ("rest", (None, 0)), ("rest", (None, True)), ["ask", (0, None)], ("ask",), ("ask", (0, None), 0)]
    moves += [("ask", part) for part in numbers]
    moves += [(word, (0, None)) for word in ("open", "rest", "no", "", "ASK", None, 0, b"ask", ["ask"], ("ask",))]
    deep = [(deep, (0, None)) for deep in deep_values()] + [("ask", deep) for deep in deep_values()]
    deep += [("ask", (deep, None)) for deep in deep_values()] + [("ask", (0, deep)) for deep in deep_values()]
    return moves + deep + other_values() + rows_that_are_wrong_items() + [0, 1]


class Runs(Checks):
    def test_the_empty_run(self):
        for system in (both(), lazy(), crowd(), stuck()):
            self.assertEqual(end_of(system, ()), system.start)
            self.assertEqual(words_of(system, ()), ())
            self.assertEqual(done_in(system, ()), Deeds())
            self.assertEqual(list(passed(system, ())), [system.start])

    def test_ordinary_runs(self):
        run = (ASK, REST, OPEN, REST)
        for system in (both(), lazy()):
            self.assertEqual(end_of(system, run), (0, 0))
            self.assertEqual(end_of(system, run[:2]), (1, 0))
            self.assertEqual(words_of(system, run), ("ask", "rest", "open", "rest"))
            self.assertEqual(done_in(system, run).names(), ["ask", "open", "rest"])
            self.assertEqual(done_in(system, run[:2]).names(), ["ask", "rest"])
            self.assertEqual(list(passed(system, run)), [(0, 0), (1, 0), (1, 0), (0, 0), (0, 0)])

    def test_arguments_by_name(self):
        self.assertEqual(end_of(system=both(), run=(ASK,)), (1, 0))
        self.assertEqual(words_of(system=both(), run=(ASK,)), ("ask",))
        self.assertEqual(done_in(system=both(), run=(ASK,)).names(), ["ask"])
        self.assertEqual(list(passed(system=both(), run=(ASK,))), [(0, 0), (1, 0)])

    def test_kinds_of_values(self):
        self.assertIs(type(end_of(both(), (ASK,))), tuple)
        self.assertIs(type(words_of(both(), (ASK,))), tuple)
        self.assertIs(type(done_in(both(), (ASK,))), Deeds)
        self.assertTrue(inspect.isgenerator(passed(both(), (ASK,))))
        for states in passed(both(), (ASK, REST)):
            self.assertIs(type(states), tuple)

    def test_the_number_of_a_step_decides_where_a_move_leads(self):
        hand = Hand(0, [(0, "a", 1), (0, "a", 2), (1, "b", 0), (2, "b", 0)])
        self.assertEqual(end_of(System([hand]), (("a", (0,)),)), (1,))
        self.assertEqual(end_of(System([hand]), (("a", (1,)),)), (2,))
        self.check_error(BadRun, 1, end_of, System([hand]), (("a", (1,)), ("b", (2,))))

    def test_drawn_runs(self):
        draw = Draw(14)
        for system in drawn_systems(100, 141):
            run = drawn_run(system, draw, 9)
            found = walk(system, run)
            self.assertEqual(list(passed(system, run)), found)
            self.assertEqual(end_of(system, run), found[-1])
            self.assertEqual(words_of(system, run), tuple(word for word, _ in run))
            self.assertEqual(done_in(system, run), Deeds([word for word, _ in run]))

    def test_long_runs(self):
        run = (ASK, OPEN) * 600 + (REST,) * 100 + (ASK,)
        self.assertEqual(end_of(both(), run), (1, 0))
        self.assertEqual(len(words_of(both(), run)), 1301)
        self.assertEqual(done_in(both(), run).names(), ["ask", "open", "rest"])
        self.assertEqual(len(list(passed(both(), run))), 1302)
        self.assertEqual(end_of(both(), (REST,) * 20000), (0, 0))

    def test_deeds_are_new_each_time(self):
        system = both()
        found = done_in(system, (ASK,))
        found |= ["rest"]
        self.assertEqual(done_in(system, (ASK,)).names(), ["ask"])


class WrongRuns(Checks):
    def check_all(self, told, system, run):
        for call in CALLS:
            self.check_error(BadRun, told, call, system, run)

    def test_values_that_are_no_tuple(self):
        wrong = [[], [ASK], [ASK, OPEN], "ask", {0: ASK}, 0, 1] + deep_values()[::2]
        for run in wrong + [value for value in other_values() + rows_that_are_wrong_items() if type(value) is not tuple]:
            self.check_all(-1, both(), run)

    def test_a_wrong_move_at_the_first_a_middle_and_the_last_place(self):
        for move in wrong_moves():
            self.check_all(0, both(), (move,))
            self.check_all(0, both(), (move, ASK, OPEN))
            self.check_all(2, both(), (ASK, OPEN, move, ASK, OPEN))
            self.check_all(3, both(), (REST, ASK, OPEN, move))

    def test_a_wrong_move_behind_many_good_ones(self):
        good = (ASK, OPEN) * 550
        for move in (OPEN, ["ask", (0, None)], ("ask", (False, None)), None, nested(tuple, 450)):
            self.check_all(1100, both(), good + (move,))
            self.check_all(1100, both(), good + (move,) + good)
        self.check_all(1101, both(), good + (ASK, ASK))

    def test_the_first_wrong_move_counts(self):
        self.check_all(1, both(), (ASK, ASK, OPEN, ASK, None))
        self.check_all(0, both(), (None, None))

    def test_a_move_must_stand_where_it_is_made(self):
        self.check_all(0, both(), (OPEN,))
        self.check_all(2, both(), (REST, ASK, ASK))
        self.check_all(1, stuck(), (ASK, ("open", (1, 1))))

    def test_a_move_of_another_system(self):
        self.check_all(0, System([door()]), (ASK,))
        self.check_all(0, System([door(), guard(), door()]), (ASK,))

    def test_deep_tuples_are_runs_of_wrong_moves(self):
        self.check_all(0, both(), nested(tuple, 450))
        self.check_all(0, both(), nested(tuple, 500))

    def test_passed_raises_before_it_yields(self):
        got = []
        with self.assertRaises(BadRun) as caught:
            for states in passed(both(), (ASK, OPEN, ASK, ASK)):
                got.append(states)
        self.assertEqual((got, caught.exception.at), ([], 3))

    def test_a_call_that_raises_changes_nothing(self):
        system = lazy()
        for run in ((OPEN,), [ASK], (ASK, None)):
            for call in CALLS:
                with self.assertRaises(BadRun):
                    call(system, run)
            self.assertEqual(system, lazy())
            self.assertEqual(end_of(system, (ASK,)), (1, 0))
        row = [ASK]
        self.check_error(BadRun, -1, is_fair, system, (), row)
        self.assertEqual(row, [ASK])


if __name__ == "__main__":
    unittest.main()
