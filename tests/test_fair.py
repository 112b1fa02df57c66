"""Points 15 to 17: fair ends, fair loops, and runs that are continued to fair runs."""

import math
import unittest

from surelydone.errors import BadRun
from surelydone.hands import Hand
from surelydone.runs import end_of, fair_run, is_fair, passed
from surelydone.systems import System, standings
from tests.helpers import Checks, deep_values, door, guard, nested, other_values, rows_that_are_wrong_items
from tests.oracle import fair, moves_at, walk
from tests.samples import (
    Draw, both, crowd, drawn_run, drawn_systems, lazy, ring_of, shapes, short_runs, stuck, widest,
)

ASK, OPEN, REST = ("ask", (0, None)), ("open", (1, 0)), ("rest", (None, 1))


class FairEnds(Checks):
    def test_no_diligent_hand_is_able(self):
        last = System([Hand(0, [(0, "a", 1)])])
        self.assertIs(is_fair(last, (), ()), False)
        self.assertIs(is_fair(last, (("a", (0,)),), ()), True)

    def test_a_run_may_end_where_only_lazy_hands_are_able(self):
        hands = [Hand(0, [(0, "a", 1)]), Hand.ring(["b"])]
        run = (("a", (0, None)),)
        for diligent, found in [([], True), ([0], True), ([1], False), ([0, 1], False)]:
            self.assertIs(is_fair(System(hands, diligent), run, ()), found)
        for diligent, found in [([], True), ([0], False), ([1], False), ([0, 1], False)]:
            self.assertIs(is_fair(System(hands, diligent), (), ()), found)

    def test_a_hand_whose_word_another_hand_can_never_do_is_not_able(self):
        for diligent, found in [([], True), ([0], True), ([1], False), (None, False)]:
            self.assertIs(is_fair(stuck().with_diligent(diligent), (ASK,), ()), found)

    def test_the_end_of_the_whole_stem_counts(self):
        system = System([door(), Hand(0, [(0, "open", 1)])], [0])
        self.assertIs(is_fair(system, (ASK, OPEN), ()), False)
        self.assertIs(is_fair(system, (ASK, OPEN, ASK), ()), True)
        self.assertIs(is_fair(system, stem=(ASK,), loop=()), False)


class FairLoops(Checks):
    def test_the_loops_of_the_examples(self):
        self.assertIs(is_fair(both(), (ASK,), (REST,)), False)
        self.assertIs(is_fair(lazy(), (ASK,), (REST,)), True)
        self.assertIs(is_fair(both(), (), (ASK, OPEN)), True)
        self.assertIs(is_fair(lazy(), (), (ASK, OPEN)), True)
        self.assertIs(is_fair(both(), (REST,), (ASK, REST, OPEN)), True)

    def test_a_loop_that_does_not_lead_back(self):
        for system in (both(), lazy(), both().with_diligent([])):
            self.assertIs(is_fair(system, (), (ASK,)), False)
            self.assertIs(is_fair(system, (ASK,), (OPEN,)), False)
            self.assertIs(is_fair(system, (), (REST, ASK, REST)), False)
            self.assertIs(is_fair(system, (ASK,), (OPEN, ASK, REST, OPEN)), False)

    def test_a_loop_leads_back_to_where_it_begins_and_not_to_the_start(self):
        self.assertIs(is_fair(both(), (ASK,), (OPEN, ASK)), True)
        hand = Hand(0, [(0, "a", 1), (1, "a", 2), (2, "a", 1)])
        self.assertIs(is_fair(System([hand]), (("a", (0,)),), (("a", (1,)), ("a", (2,)))), True)

    def test_a_diligent_hand_that_is_able_now_and_then(self):
        # The first hand is able only where the other one can do the word ask, too.
        helper = Hand(0, [(0, "ask", 0)])
        other = Hand(0, [(0, "ask", 1), (0, "walk", 2), (1, "open", 0), (2, "walk", 0)])
        system = System([helper, other], [0])
        walk_there, walk_back = ("walk", (None, 1)), ("walk", (None, 3))
        self.assertEqual(system.able((0, 0)), [0, 1])
        self.assertEqual(system.able((0, 2)), [1])
        self.assertIs(is_fair(system, (), (walk_there, walk_back)), True)
        self.assertIs(is_fair(system, (walk_there,), (walk_back, walk_there)), True)
        self.assertIs(is_fair(system, (walk_there,), ()), True)
        self.assertIs(is_fair(system, (), ()), False)

    def test_a_diligent_hand_that_is_able_all_the_time_and_never_taken_along(self):
        system = System([Hand.ring(["a", "b"]), Hand.ring(["c"])], [1])
        around = (("a", (0, None)), ("b", (1, None)))
        self.assertIs(is_fair(system, (), around), False)
        self.assertIs(is_fair(system, (("c", (None, 0)),), around), False)
        self.assertIs(is_fair(system, (), around + (("c", (None, 0)),)), True)
        self.assertIs(is_fair(system.with_diligent([0]), (), around), True)
        self.assertIs(is_fair(system.with_diligent([]), (), around), True)
        self.assertIs(is_fair(system.with_diligent([0, 1]), (), around), False)

    def test_it_is_not_enough_to_be_taken_along_by_the_stem(self):
        system = System([Hand.ring(["a"]), Hand.ring(["b"])])
        self.assertIs(is_fair(system, (("a", (0, None)),), (("b", (None, 0)),)), False)

    def test_where_a_hand_is_able_in_the_stem_does_not_matter(self):
        # The first hand is not able at the start, and able at all standings of the loop.
        system = System([Hand(0, [(0, "b", 0)]), Hand(0, [(0, "a", 1), (1, "a", 1), (1, "b", 1)])], [0])
        self.assertEqual(system.able((0, 0)), [1])
        self.assertIs(is_fair(system, (("a", (None, 0)),), (("a", (None, 1)),)), False)
        self.assertIs(is_fair(system, (("a", (None, 0)),), (("a", (None, 1)), ("b", (0, 2)))), True)

    def test_a_hand_whose_word_another_hand_can_never_do(self):
        # Behind the word ask the door can never go on, so the fair run goes on without it.
        self.assertIs(is_fair(stuck(), (ASK,), (("rest", (None, 0)),)), True)
        self.assertIs(is_fair(stuck(), (), (("rest", (None, 0)),)), False)

    def test_several_hands_are_taken_along_by_one_move(self):
        system = System([Hand.ring(["a"]), Hand.ring(["a"]), Hand.ring(["a"]), Hand.ring(["a"])])
        self.assertIs(is_fair(system, (), (("a", (0, 0, 0, 0)),)), True)

    def test_loops_of_more_than_1000_moves(self):
        for times in (520, 3000):
            self.assertIs(is_fair(both(), (), (ASK, OPEN) * times), True)
            self.assertIs(is_fair(both(), (ASK,), (REST,) * 2 * times), False)
            self.assertIs(is_fair(both(), (ASK,), (REST,) * 2 * times + (OPEN, ASK)), True)
            self.assertIs(is_fair(both(), (REST,) * times, (ASK,) + (REST,) * times), False)

    def test_all_short_stems_and_loops_of_some_systems(self):
        systems = [both(), lazy(), stuck(), System([door(), door()], [1])] + list(drawn_systems(40, 15))
        for system in systems:
            for chosen in (None, [], [0], system.diligent):
                now = system.with_diligent(chosen)
                for run in short_runs(now, 3)[:60]:
                    for at in range(len(run) + 1):
                        self.assertIs(is_fair(now, run[:at], run[at:]), fair(now, run[:at], run[at:]))


class WrongStemsAndLoops(Checks):
    def test_values_that_are_no_tuple(self):
        values = [[], [ASK], "ask", {0: ASK}, 0, nested(list, 450), nested(dict, 450)] + other_values()
        for value in values:
            self.check_error(BadRun, -1, is_fair, both(), value, ())
            self.check_error(BadRun, -1, is_fair, both(), (), value)
            self.check_error(BadRun, -1, is_fair, both(), value, value)

    def test_a_list_comes_before_a_wrong_move(self):
        self.check_error(BadRun, -1, is_fair, both(), (None,), [REST])
        self.check_error(BadRun, -1, is_fair, both(), [REST], (None,))
        self.check_error(BadRun, -1, is_fair, both(), (OPEN,), None)

    def test_the_index_is_counted_through_both(self):
        for move in [OPEN, None, ["ask", (0, None)], ("ask", (False, None)), ("ask", [0, None])] + deep_values():
            self.check_error(BadRun, 0, is_fair, both(), (move,), ())
            self.check_error(BadRun, 0, is_fair, both(), (), (move,))
            self.check_error(BadRun, 2, is_fair, both(), (ASK, OPEN, move), (ASK,))
            self.check_error(BadRun, 2, is_fair, both(), (ASK, OPEN), (move, ASK))
            self.check_error(BadRun, 3, is_fair, both(), (REST,), (ASK, OPEN, move))
            self.check_error(BadRun, 1104, is_fair, both(), (REST,) * 1102, (ASK, OPEN, move))
        self.check_error(BadRun, 1, is_fair, both(), (ASK, None), (None,))
        self.check_error(BadRun, 1, is_fair, both(), (ASK,), (ASK, OPEN))

    def test_a_wrong_move_comes_before_a_loop_that_does_not_lead_back(self):
        self.check_error(BadRun, 1, is_fair, both(), (), (ASK, ASK))

    def test_rows_of_wrong_items(self):
        for value in rows_that_are_wrong_items():
            if type(value) is tuple and value:
                self.check_error(BadRun, 0, is_fair, both(), value, ())
                self.check_error(BadRun, 1, is_fair, both(), (ASK,), value)


class FairRuns(Checks):
    def check_fair_run(self, system, run):
        found = fair_run(system, run)
        self.assertIs(type(found), tuple)
        stem, loop = found
        self.assertIs(type(stem), tuple)
        self.assertIs(type(loop), tuple)
        self.assertEqual(stem[:len(run)], run)
        self.assertIs(is_fair(system, stem, loop), True)
        most = 4 * math.prod([len(hand.states) for hand in system.hands])
        self.assertLessEqual(len(stem) - len(run), most)
        self.assertLessEqual(len(loop), most)
        self.assertEqual(fair_run(system, run), found)
        return found

    def test_several_systems_and_runs(self):
        draw = Draw(17)
        for system in [both(), lazy(), stuck(), crowd()] + list(drawn_systems(150, 170)):
            for chosen in (None, [], [0], system.diligent):
                now = system.with_diligent(chosen)
                for many in (0, 1, 7):
                    stem, loop = self.check_fair_run(now, drawn_run(now, draw, many))
                    if len(stem) + len(loop) < 40:
                        self.assertIsNotNone(walk(now, stem + loop))
                        self.assertTrue(fair(now, stem, loop))

    def test_from_every_standing_of_some_systems(self):
        for system in list(shapes())[::7]:
            for states in standings(system):
                self.check_fair_run(system.started_at(states).with_diligent(None), ())

    def test_a_run_that_is_a_fair_end(self):
        last = System([Hand(0, [(0, "a", 1)])])
        self.assertEqual(self.check_fair_run(last, (("a", (0,)),)), ((("a", (0,)),), ()))
        self.assertEqual(self.check_fair_run(last, ())[1], ())

    def test_no_diligent_hands(self):
        for run in ((), (ASK,), (ASK, REST, OPEN)):
            self.check_fair_run(both().with_diligent([]), run)

    def test_long_runs(self):
        self.check_fair_run(both(), (ASK, OPEN) * 600)
        self.check_fair_run(lazy(), (ASK, OPEN) * 600 + (ASK,))

    def test_many_standings(self):
        self.check_fair_run(widest(), ())
        self.check_fair_run(widest([1, 3]), ())
        rings = [ring_of("a", 8), ring_of("b", 7), ring_of("c", 5), ring_of("d", 3)]
        self.check_fair_run(System(rings), ())
        steps = [(state, "a", (state + by) % 5) for state in range(5) for by in range(4)]
        self.check_fair_run(System([Hand(0, steps)] * 4), ())

    def test_wrong_runs(self):
        self.check_error(BadRun, -1, fair_run, both(), [ASK])
        self.check_error(BadRun, 1, fair_run, both(), (ASK, ASK))
        self.check_error(BadRun, 0, fair_run, system=both(), run=(None,))

    def test_other_hands_and_words_between(self):
        system = System([Hand.ring(["a", "b", "c"]), Hand.ring(["c", "d"]), guard()])
        stem, loop = self.check_fair_run(system, ())
        self.assertEqual(next(iter(passed(system, stem))), system.start)
        self.assertIn(loop[0], moves_at(system, end_of(system, stem)))


if __name__ == "__main__":
    unittest.main()
