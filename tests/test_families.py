"""Points 27 to 29: what is certain and possible, what the future brings, and what goes together."""

import unittest

from surelydone.deeds import Deeds
from surelydone.errors import BadRun, BadWords, TooMany
from surelydone.families import always, done_sets, future, order, possible, revealed, together
from surelydone.hands import Hand
from surelydone.reveals import reveals
from surelydone.systems import System
from tests.helpers import Checks, bad_names, deep_values, door, nested, other_values, rows_that_are_wrong_items
from tests.oracle import behind_run, done_words, subsets
from tests.samples import (
    Draw, both, crowd, drawn_run, drawn_systems, either, lazy, never, pairs_1001, ring_of, stuck, widest, with_last,
)

ASK, OPEN, REST = ("ask", (0, None)), ("open", (1, 0)), ("rest", (None, 1))


def samples():
    """Systems of every kind, without diligent hands, with some and with all."""
    first = [both(), lazy(), stuck(), never(), either()]
    several = [system.with_diligent(chosen) for system in first for chosen in ([], [0], None)]
    return several + list(drawn_systems(60, 70))


class Single(Checks):
    """Point 27."""

    def check_words(self, expected, found):
        self.assertIs(type(found), list)
        self.assertEqual(found, expected)

    def test_of_the_example(self):
        self.check_words(["ask", "open"], always(both()))
        self.check_words(["ask", "open", "rest"], possible(both()))
        self.check_words([], always(lazy()))
        self.check_words(["ask", "open", "rest"], possible(lazy()))
        self.check_words(["ask", "open"], revealed(both(), ["ask"]))
        self.check_words(["ask"], revealed(lazy(), ["ask"]))
        self.check_words(["ask", "open"], revealed(lazy(), ["open"]))
        self.check_words(["ask", "rest"], revealed(lazy(), ["rest", "ask"]))

    def test_no_fair_run_does_anything(self):
        self.check_words([], always(never()))
        self.check_words([], possible(never()))
        self.check_words([], revealed(never(), []))
        self.check_words(["a", "b"], revealed(never(), ["a"]))

    def test_words_that_can_never_be_done(self):
        system = System([Hand(0, [(0, "a", 0), (1, "b", 0)])])
        self.check_words(["a"], always(system))
        self.check_words(["a"], possible(system))
        self.check_words(["a"], revealed(system, ["a"]))
        self.check_words(["a", "b"], revealed(system, ["b"]))
        self.check_words(["ask", "rest"], possible(stuck()))

    def test_a_word_in_every_done_set_and_one_in_none_of_two(self):
        self.check_words(["wave"], always(either()))
        self.check_words(["left", "right", "wave"], possible(either()))
        self.check_words([], always(either([])))
        self.check_words(["left", "wave"], revealed(either(), ["left"]))

    def test_no_done_set_has_all_seen_words(self):
        self.check_words(["left", "right", "wave"], revealed(either(), ["left", "right"]))
        self.check_words(["left", "right", "wave"], revealed(either(), ["none"]))
        self.check_words(["left", "right", "wave"], revealed(either(), ["wave", "none"]))
        self.check_words(["ask", "open", "rest"], revealed(stuck(), ["open"]))

    def test_without_seen_words(self):
        for system in samples():
            for seen in ([], (), Deeds()):
                self.assertEqual(revealed(system, seen), always(system))

    def test_seen_words_of_every_kind(self):
        for seen in (["open"], ("open",), Deeds(["open"]), ["open", "open"], ("open", "ask", "open")):
            self.check_words(["ask", "open"], revealed(lazy(), seen))
            self.check_words(["ask", "open"], revealed(system=lazy(), seen=seen))
        for seen in (["rest", "ask"], ("ask", "rest", "ask"), Deeds(["rest", "ask"])):
            self.check_words(["ask", "open", "rest"], revealed(both(), seen))

    def test_against_a_search_of_the_test(self):
        for system in samples():
            sets = [set(words) for words in done_words(system)]
            self.check_words(sorted(set(system.words).intersection(*sets)), always(system))
            self.check_words(sorted(set().union(*sets)), possible(system))
            for seen in subsets(system.words[:3] + ("none",)):
                fit = [words for words in sets if words >= set(seen)]
                self.check_words(sorted(set(system.words).intersection(*fit)), revealed(system, list(seen)))

    def test_each_revealed_word_is_the_answer_of_a_question(self):
        for system in samples():
            for seen in subsets(system.words[:2] + ("none",)):
                found = revealed(system, seen)
                self.assertEqual(found, [word for word in system.words if reveals(system, seen=seen, wanted=[word])])

    def test_wrong_seen_words(self):
        for value in [value for value in other_values() if not isinstance(value, Deeds)] + [0, "ask", {"ask": 1}]:
            self.check_error(BadWords, value, revealed, both(), value)
        for item in bad_names() + deep_values():
            self.check_error(BadWords, item, revealed, both(), ["ask", item, None])
            self.check_error(BadWords, item, revealed, both(), seen=(item,))
        # Wrong words come before the number of pairs.
        self.check_error(BadWords, "A", revealed, widest(), ["a", "A"])
        self.check_error(TooMany, 1000, revealed, widest(), ["none"])


class Future(Checks):
    """Point 28."""

    def check_future(self, system, run, expected=None):
        found = future(system, run)
        self.assertIs(type(found), tuple)
        self.assertEqual([type(row) for row in found], [list, list, list])
        sure, left, out = found
        for row in found:
            self.assertEqual(row, sorted(set(row)))
        self.assertEqual(sorted(sure + left + out), list(system.words))
        self.assertLessEqual({move[0] for move in run}, set(sure))
        sets = [set(words) for words in done_words(system, behind_run(system, run))]
        self.assertEqual(sure, sorted(set.intersection(*sets)))
        self.assertEqual(sure + left, sure + sorted(set.union(*sets) - set(sure)))
        if expected is not None:
            self.assertEqual(found, expected)
        return found

    def test_of_the_example(self):
        self.check_future(lazy(), (ASK,), (["ask"], ["open", "rest"], []))
        self.check_future(both(), (ASK,), (["ask", "open"], ["rest"], []))

    def test_the_empty_run(self):
        self.check_future(lazy(), (), ([], ["ask", "open", "rest"], []))
        self.check_future(both(), (), (["ask", "open"], ["rest"], []))
        self.check_future(never(), (), ([], [], ["a", "b"]))
        for system in samples():
            sure, left, out = self.check_future(system, ())
            self.assertEqual(sure, always(system))
            self.assertEqual(sorted(sure + left), possible(system))

    def test_runs_that_go_on_and_on(self):
        for times in (1, 2, 500, 4000):
            self.check_future(lazy(), (REST,) * times, (["rest"], ["ask", "open"], []))
            self.check_future(lazy(), (ASK, OPEN) * times, (["ask", "open"], ["rest"], []))
            self.check_future(lazy(), (ASK, OPEN) * times + (ASK, REST), (["ask", "open", "rest"], [], []))
            self.check_future(both(), (REST,) * times, (["ask", "open", "rest"], [], []))

    def test_a_run_behind_which_nothing_else_is_possible(self):
        last = System([Hand(0, [(0, "a", 1), (0, "b", 2), (2, "c", 3)])], [])
        self.check_future(last, (), ([], ["a", "b", "c"], []))
        self.check_future(last, (("a", (0,)),), (["a"], [], ["b", "c"]))
        self.check_future(last, (("b", (1,)),), (["b"], ["c"], ["a"]))
        self.check_future(last, (("b", (1,)), ("c", (2,))), (["b", "c"], [], ["a"]))
        self.check_future(last.with_diligent([0]), (("b", (1,)),), (["b", "c"], [], ["a"]))

    def test_a_choice(self):
        left, wave = ("left", (0, None)), ("wave", (None, 0))
        self.check_future(either(), (), (["wave"], ["left", "right"], []))
        self.check_future(either(), (left,), (["left", "wave"], [], ["right"]))
        self.check_future(either([0]), (left,), (["left"], ["wave"], ["right"]))
        self.check_future(either([]), (wave,), (["wave"], ["left", "right"], []))

    def test_words_of_the_run_are_sure_wherever_it_is(self):
        hand = Hand(0, [(0, "once", 1), (1, "a", 1), (1, "b", 2)])
        run = (("once", (0,)), ("a", (1,)))
        self.check_future(System([hand]), run[:1], (["once"], ["a", "b"], []))
        self.check_future(System([hand]), run, (["a", "once"], ["b"], []))
        self.check_future(System([hand]), run[:1] + (("b", (2,)),), (["b", "once"], [], ["a"]))

    def test_all_fair_runs_count_and_only_those_behind_the_run(self):
        # Both ways lead to the same standing; what was done on the way makes the difference.
        hand = Hand(0, [(0, "a", 1), (0, "b", 1), (1, "c", 1)])
        system = System([hand])
        self.check_future(system, (("a", (0,)),), (["a", "c"], [], ["b"]))
        self.check_future(system, (("b", (1,)), ("c", (2,))), (["b", "c"], [], ["a"]))

    def test_drawn_runs(self):
        draw = Draw(71)
        for system in samples():
            for many in (1, 2, 7):
                self.check_future(system, drawn_run(system, draw, many))

    def test_more_of_a_run_only_decides_what_was_left(self):
        draw = Draw(72)
        for system in drawn_systems(60, 73):
            run = drawn_run(system, draw, 5)
            for at in range(len(run)):
                sure, left, out = future(system, run[:at])
                more, rest, away = future(system, run[:at + 1])
                self.assertLessEqual(set(sure), set(more))
                self.assertLessEqual(set(out), set(away))
                self.assertLessEqual(set(rest), set(left))

    def test_wrong_runs(self):
        for value in other_values() + [[], [ASK], "ask", 0, nested(list, 500)]:
            self.check_error(BadRun, -1, future, both(), value)
        for item in other_values() + rows_that_are_wrong_items() + deep_values() + [0, OPEN, ("ask", (False, None))]:
            self.check_error(BadRun, 0, future, both(), (item,))
            self.check_error(BadRun, 1, future, both(), run=(REST, item, None))
        self.check_error(BadRun, 1, future, both(), (ASK, ASK))
        self.check_error(BadRun, 2000, future, system=both(), run=(ASK, OPEN) * 1000 + (OPEN,))

    def test_a_wrong_run_comes_before_too_many(self):
        self.check_error(BadRun, -1, future, widest(), [])
        self.check_error(BadRun, 0, future, widest(), (ASK,))
        self.check_error(BadRun, 1, future, pairs_1001(), (("a", (0, None, None)), ("a", (0, None, None))))
        self.check_error(TooMany, 1000, future, widest(), ())

    def test_the_limit_counts_from_the_start(self):
        # Behind the word halt only one pair is left, and the run is already there.
        rings = [with_last(ring_of(word, 7), ["halt"]) for word in "abc"]
        system = System([Hand(0, [(0, "d", 0), (0, "halt", 1)])] + rings)
        halt = ("halt", (1, 7, 7, 7))
        self.assertEqual(system.moves(system.behind(system.start, halt)), [])
        self.check_error(TooMany, 1000, future, system, (halt,))
        few = System([Hand(0, [(0, "halt", 1)])] + rings)
        self.assertEqual(future(few, (("halt", (0, 7, 7, 7)),)), (["halt"], [], ["a", "b", "c"]))


class Lots(Checks):
    """Point 29."""

    def check_lots(self, system, lots=None, pairs=None):
        found, ordered = together(system), order(system)
        self.assertEqual((type(found), type(ordered)), (list, list))
        self.assertEqual({type(lot) for lot in found} - {tuple}, set())
        self.assertEqual({type(index) for pair in ordered for index in pair} - {int}, set())
        sets = [set(words) for words in done_words(system)]
        words = sorted(set().union(*sets))
        expected = []
        for word in words:
            same = tuple(other for other in words if all((word in one) == (other in one) for one in sets))
            if same not in expected:
                expected.append(same)
        self.assertEqual(found, sorted(expected))
        self.assertEqual(found, expected)
        below = []
        for a in range(len(expected)):
            for b in range(len(expected)):
                if a != b and all(one >= set(expected[b]) for one in sets if one >= set(expected[a])):
                    below.append((a, b))
        self.assertEqual(ordered, below)
        if lots is not None:
            self.assertEqual((found, ordered), (lots, pairs))

    def test_of_the_example(self):
        self.check_lots(lazy(), [("ask",), ("open",), ("rest",)], [(1, 0)])
        self.check_lots(both(), [("ask", "open"), ("rest",)], [(1, 0)])

    def test_one_lot(self):
        self.check_lots(System([Hand.ring(["c", "a", "b"])]), [("a", "b", "c")], [])
        self.check_lots(System([Hand.ring(["a"])]), [("a",)], [])

    def test_no_lot(self):
        self.check_lots(never(), [], [])
        self.check_lots(never([]), [], [])

    def test_words_that_no_fair_run_does_stand_in_no_lot(self):
        self.check_lots(stuck(), [("ask", "rest")], [])
        self.check_lots(System([Hand(0, [(0, "b", 0), (1, "a", 0), (1, "c", 1)])]), [("b",)], [])

    def test_a_chain(self):
        chain = System([Hand(0, [(0, "c", 1), (1, "b", 2), (2, "a", 3)])], [])
        self.check_lots(chain, [("a",), ("b",), ("c",)], [(0, 1), (0, 2), (1, 2)])

    def test_words_that_exclude_each_other(self):
        self.check_lots(either(), [("left",), ("right",), ("wave",)], [(0, 2), (1, 2)])
        self.check_lots(either([]), [("left",), ("right",), ("wave",)], [])

    def test_the_order_of_lots_is_that_of_their_first_words(self):
        other = Hand.ring(["e"])
        system = System([Hand(0, [(0, "d", 1), (1, "a", 1)]), Hand(0, [(0, "c", 1), (1, "b", 1)]), other], [])
        self.check_lots(system, [("a",), ("b",), ("c",), ("d",), ("e",)], [(0, 3), (1, 2)])
        choice = Hand(0, [(0, "d", 1), (1, "a", 1), (0, "c", 2), (2, "b", 2)])
        self.check_lots(System([choice]), [("a", "d"), ("b", "c")], [])
        self.check_lots(System([choice, other], [0]), [("a", "d"), ("b", "c"), ("e",)], [])
        self.check_lots(System([choice, other]), [("a", "d"), ("b", "c"), ("e",)], [(0, 2), (1, 2)])

    def test_words_go_together_if_each_reveals_the_other(self):
        for system in samples():
            lots, words = together(system), possible(system)
            for one in words:
                for other in words:
                    same = (reveals(system, seen=[one], wanted=[other])
                            and reveals(system, seen=[other], wanted=[one]))
                    self.assertEqual(any(one in lot and other in lot for lot in lots), same)

    def test_drawn_systems(self):
        for system in samples() + [crowd()] + list(drawn_systems(60, 74)):
            self.check_lots(system)

    def test_the_argument_by_its_name(self):
        self.assertEqual(together(system=both()), together(both()))
        self.assertEqual(order(system=lazy()), [(1, 0)])
        self.assertEqual(always(system=both()), ["ask", "open"])
        self.assertEqual(possible(system=both()), list(both().words))
        self.assertEqual(sorted(word for lot in together(crowd()) for word in lot), possible(crowd()))
        self.assertEqual(done_sets(System([door()])), [("ask", "open")])


if __name__ == "__main__":
    unittest.main()
