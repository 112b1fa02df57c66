"""Point 23: lassos."""

import unittest

from surelydone.deeds import Deeds
from surelydone.hands import Hand
from surelydone.reveals import is_lasso, lasso, reveals
from surelydone.runs import fair_run
from surelydone.systems import System
from tests.helpers import Checks, deep_values, door, nested, other_values, round_itself, rows_that_are_wrong_items
from tests.oracle import fair, keeps_lasso, met, walk
from tests.samples import (
    Draw, both, crowd, drawn_questions, drawn_run, drawn_systems, lazy, ring_of, stuck, widest,
)

ASK, OPEN, REST = ("ask", (0, None)), ("open", (1, 0)), ("rest", (None, 1))
ASKED = {"seen": ["ask"], "wanted": ["open"]}
GOOD = ((ASK,), (REST,))


class Lassos(Checks):
    def check_lasso(self, system, seen, wanted):
        """Check the form, the length and the meaning of the lasso of a question whose answer is no."""
        found = lasso(system, seen=seen, wanted=wanted)
        self.assertIs(type(found), tuple)
        stem, loop = found
        self.assertEqual({type(stem), type(loop)}, {tuple})
        many = len(met(system, seen, wanted))
        self.assertLessEqual(len(stem), many - 1)
        self.assertLessEqual(len(loop), 5 * many)
        self.assertIsNotNone(walk(system, stem + loop))
        self.assertTrue(keeps_lasso(system, found, seen, wanted))
        self.assertIs(is_lasso(system, found, seen=seen, wanted=wanted), True)
        return found

    def test_the_lasso_of_the_example(self):
        self.assertEqual(self.check_lasso(lazy(), ["ask"], ["open"])[0], (ASK,))
        self.assertIsNone(lasso(both(), **ASKED))

    def test_a_run_that_ends(self):
        once = System([Hand(0, [(0, "a", 1)])])
        self.assertEqual(self.check_lasso(once, ["a"], ["b"]), ((("a", (0,)),), ()))
        self.assertEqual(self.check_lasso(stuck().with_diligent([0]), ["ask"], ["open"])[0], (ASK,))

    def test_one_met_marked_standing(self):
        stem, loop = self.check_lasso(System([Hand.ring(["a"])]), [], [])
        self.assertEqual((stem, loop), ((), (("a", (0,)),)))
        stem, loop = self.check_lasso(System([Hand.ring([word]) for word in "abcd"]), [], ["none"])
        self.assertEqual(stem, ())
        self.assertEqual(len(loop), 4)

    def test_a_stem_of_n_minus_1_moves(self):
        # Each met marked standing stands on the one way there is.
        chain = System([Hand(0, [(at, word, at + 1) for at, word in enumerate("abcdefg")])])
        stem, loop = self.check_lasso(chain, ["g"], [])
        self.assertEqual((len(stem), loop), (7, ()))
        self.assertEqual(len(met(chain, ["g"], [])), 8)

    def test_no_diligent_hands(self):
        for seen in ([], ["ask"], ["open"], ["ask", "rest"]):
            self.check_lasso(both().with_diligent([]), seen, ["none"])

    def test_a_loop_that_serves_four_hands_in_far_places(self):
        ring = [(at, "a", (at + 1) % 8) for at in range(8)]
        walker = Hand(0, ring + [(2, "b", 2), (4, "c", 4), (6, "d", 6)])
        system = System([walker] + [Hand.ring([word]) for word in "bcd"])
        self.check_lasso(system, ["a"], [])
        self.check_lasso(system, ["a", "d", "b"], ["c"])
        must = System([Hand.ring(["a", "b", "c", "d"])] + [Hand(0, [(0, word, 0)]) for word in "bcd"])
        self.check_lasso(must, ["a"], ["none"])

    def test_all_standings_of_large_systems(self):
        rings = System([ring_of("a", 8), ring_of("b", 5), ring_of("c", 5), ring_of("d", 5)])
        stem, loop = lasso(rings, wanted=[])
        self.assertIs(is_lasso(rings, (stem, loop), wanted=[]), True)
        self.assertLessEqual(len(stem), 999)
        self.assertLessEqual(len(loop), 5000)
        steps = [(state, "a", (state + by) % 5) for state in range(5) for by in range(4)]
        crowded = System([Hand(0, steps)] * 4)
        self.assertIs(is_lasso(crowded, lasso(crowded, seen=["a"], wanted=[]), seen=["a"], wanted=[]), True)

    def test_crowds(self):
        for seen in ([], ["a"], ["d", "e"], ["c"]):
            for wanted in ([], ["b"], ["a", "e"]):
                for diligent in (None, [], [0, 2], [1]):
                    system = crowd().with_diligent(diligent)
                    if not reveals(system, seen=seen, wanted=wanted):
                        self.check_lasso(system, seen, wanted)

    def test_drawn_questions(self):
        many = loops = 0
        for system in drawn_systems(250, 23):
            for seen, wanted in drawn_questions(system, 5, 230):
                if reveals(system, seen=seen, wanted=wanted):
                    self.assertIsNone(lasso(system, seen=seen, wanted=wanted))
                else:
                    _, loop = self.check_lasso(system, seen, wanted)
                    many, loops = many + 1, loops + (loop != ())
        self.assertGreater(many, 200)
        self.assertGreater(loops, 100)


class LetBy(Checks):
    def check_thing(self, expected, system, thing, **asked):
        self.assertIs(is_lasso(system, thing, **asked), expected)

    def test_the_lasso_of_the_example(self):
        self.check_thing(True, lazy(), GOOD, **ASKED)
        self.check_thing(False, both(), GOOD, **ASKED)
        self.check_thing(True, both().with_diligent([]), ((ASK,), ()), **ASKED)
        self.check_thing(False, lazy(), ((ASK,), ()), **ASKED)

    def test_words_as_deeds_and_twice(self):
        for seen in (["ask", "ask"], ("ask",), Deeds(["ask"])):
            for wanted in (["open", "none"], ("open", "open"), Deeds(["none", "open"])):
                self.check_thing(True, lazy(), GOOD, seen=seen, wanted=wanted)

    def test_a_seen_word_that_only_the_loop_does(self):
        for system in (both(), lazy()):
            self.check_thing(False, system, ((), (ASK, OPEN)), seen=["ask"], wanted=["rest"])
            self.check_thing(True, system, ((), (ASK, OPEN)), wanted=["rest"])
            self.check_thing(True, system, ((ASK,), (OPEN, ASK)), seen=["ask"], wanted=["rest"])
            self.check_thing(False, system, ((ASK,), (OPEN, ASK)), seen=["ask", "open"], wanted=["rest"])
            self.check_thing(True, system, ((ASK, OPEN), (ASK, OPEN)), seen=["ask", "open"], wanted=["rest"])

    def test_seen_words_that_are_not_done(self):
        self.check_thing(False, lazy(), GOOD, seen=["ask", "open"], wanted=[])
        self.check_thing(False, lazy(), GOOD, seen=["none"], wanted=[])
        self.check_thing(True, lazy(), ((ASK, REST), (REST,)), seen=["rest", "ask"], wanted=[])

    def test_a_wanted_word_in_the_stem_or_in_the_loop(self):
        self.check_thing(True, lazy(), ((REST, ASK), (REST,)), seen=["ask"], wanted=["open"])
        self.check_thing(False, lazy(), ((REST, ASK), (REST,)), seen=["ask"], wanted=["rest"])
        self.check_thing(False, lazy(), ((REST,), (ASK, OPEN)), seen=[], wanted=["rest"])
        self.check_thing(False, lazy(), ((), (ASK, OPEN)), wanted=["open"])
        self.check_thing(False, lazy(), ((ASK, OPEN, ASK), (REST,)), **ASKED)
        self.check_thing(False, lazy(), ((ASK,), (REST,)), seen=["ask"], wanted=["ask"])
        self.check_thing(False, lazy(), ((ASK,), (OPEN, REST, ASK)), **ASKED)

    def test_runs_that_are_not_fair(self):
        self.check_thing(False, lazy(), ((ASK,), ()), seen=["ask"], wanted=[])
        self.check_thing(False, lazy(), ((REST,), (ASK,)), wanted=[])
        self.check_thing(False, both(), ((ASK,), (REST,)), wanted=[])

    def test_lassos_of_any_length(self):
        for times in (2, 100, 1500):
            self.check_thing(True, lazy(), ((REST,) * times + (ASK,), (REST,) * times), **ASKED)
            self.check_thing(True, lazy(), ((ASK,) + (REST,) * times, (REST,)), **ASKED)
            self.check_thing(False, lazy(), ((ASK,), (REST,) * times + (OPEN, ASK)), **ASKED)
            self.check_thing(False, lazy(), ((REST,) * times, (REST,) * times), **ASKED)
            self.check_thing(False, both(), ((REST,) * times + (ASK,), (REST,) * times), **ASKED)
            self.check_thing(True, both(), ((ASK, OPEN) * times, (ASK, OPEN) * times), wanted=["rest"])

    def test_every_fair_run_is_a_lasso_of_some_question(self):
        draw = Draw(231)
        for system in drawn_systems(80, 232):
            stem, loop = fair_run(system, drawn_run(system, draw, 4))
            done = sorted({move[0] for move in stem})
            others = sorted(set(system.words) - {move[0] for move in stem + loop})
            self.check_thing(True, system, (stem, loop), seen=done, wanted=others)
            if others:
                self.check_thing(False, system, (stem, loop), seen=done + others[:1], wanted=[])
            if stem:
                self.check_thing(False, system, (stem, loop), seen=[], wanted=done[-1:])

    def test_drawn_stems_and_loops(self):
        draw, let_by = Draw(233), 0
        for system in drawn_systems(150, 234):
            for seen, wanted in drawn_questions(system, 4, 235):
                run = drawn_run(system, draw, 6)
                at = draw.below(len(run) + 1)
                thing = (run[:at], run[at:])
                expected = keeps_lasso(system, thing, seen, wanted)
                self.check_thing(expected, system, thing, seen=seen, wanted=wanted)
                self.check_thing(fair(system, *thing), system, thing, wanted=[])
                let_by += expected
        self.assertGreater(let_by, 30)

    def test_no_thing_is_changed_and_none_is_asked_for_too_many(self):
        self.check_thing(True, widest([]), ((), ()), wanted=[])
        moves = [("a", (0, None, None, None)), ("b", (None, 0, None, None))]
        self.check_thing(True, widest([2]), (tuple(moves), (("c", (None, None, 0, None)),) +
                                            tuple(("c", (None, None, at, None)) for at in range(1, 8))),
                         seen=["a", "b"], wanted=["d"])
        self.check_thing(False, widest(), (tuple(moves), ()), seen=["a", "b"], wanted=["d"])


class AnyValue(Checks):
    def check_none(self, things, system=None):
        for thing in things:
            self.assertIs(is_lasso(system or lazy(), thing, **ASKED), False)
            self.assertIs(is_lasso(system or lazy(), thing, wanted=["open"]), False)

    def test_other_kinds(self):
        odd = other_values() + rows_that_are_wrong_items() + deep_values() + [0, 1, "01", nested(tuple, 7)]
        self.check_none(odd + [round_itself()])

    def test_lists_for_tuples_and_other_lengths(self):
        self.check_none([
            [(ASK,), (REST,)], ([ASK], (REST,)), ((ASK,), [REST]), ([ASK], [REST]), ((ASK,),), ((ASK,), (REST,), ()),
            (GOOD,), [GOOD], (), ((),), (ASK, REST), {0: (ASK,), 1: (REST,)}, {(ASK,): (REST,)},
            ((["ask", (0, None)],), (REST,)), ((ASK,), (["rest", (None, 1)],)), ((("ask", [0, None]),), (REST,)),
            ((ASK,), (("rest", [None, 1]),)),
        ])

    def test_flags_for_integers(self):
        self.check_none([((("ask", (False, None)),), (REST,)), ((ASK,), (("rest", (None, True)),)),
                         ((("ask", (0.0, None)),), (REST,)), ((ASK,), (("rest", (None, 1.0)),)),
                         ((("ask", (0, False)),), (REST,))])

    def test_parts_of_other_kinds(self):
        odd = other_values() + [value for value in rows_that_are_wrong_items() if value != ()] + deep_values() + [0, 1]
        self.check_none([(part, (REST,)) for part in odd])
        self.check_none([((ASK,), part) for part in odd])
        self.check_none([(part, part) for part in odd])

    def test_moves_of_other_kinds(self):
        odd = other_values() + rows_that_are_wrong_items() + deep_values() + [0, 1, OPEN, ("rest", (None, 0))]
        self.check_none([((move,), (REST,)) for move in odd])
        self.check_none([((ASK, move), (REST,)) for move in odd if move != OPEN])
        self.check_none([((ASK,), (REST, move)) for move in odd])
        for deep in deep_values():
            for move in [("rest", deep), (deep, (None, 1)), ("rest", (None, deep)), ("rest", (deep, 1))]:
                self.check_none([((ASK,), (move,)), ((move, ASK), (REST,))])

    def test_what_is_no_run(self):
        self.check_none([((OPEN,), (REST,)), ((ASK, ASK), (REST,)), ((ASK,), (ASK,)), ((ASK,), (REST, ASK))])
        self.check_none([GOOD], System([door()]))

    def test_no_lasso_where_the_answer_is_yes(self):
        draw, many = Draw(236), 0
        for system in drawn_systems(60, 237):
            for seen, wanted in drawn_questions(system, 4, 238):
                if reveals(system, seen=seen, wanted=wanted):
                    for _ in range(5):
                        thing = fair_run(system, drawn_run(system, draw, 5))
                        self.assertIs(is_lasso(system, thing, seen=seen, wanted=wanted), False)
                        many += 1
        self.assertGreater(many, 100)


if __name__ == "__main__":
    unittest.main()
