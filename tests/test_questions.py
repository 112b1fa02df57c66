"""Points 18, 19 and 24, the first sentence of point 30, and points 2 to 5 as far as questions go."""

import unittest

from surelydone.deeds import Deeds
from surelydone.errors import BadWords, TooMany
from surelydone.hands import Hand
from surelydone.reveals import is_lasso, is_table, lasso, reveals, table
from surelydone.systems import System, standings
from tests.helpers import Checks, bad_names, door, guard, names, other_values
from tests.oracle import answer, met
from tests.samples import (
    Draw, both, crowd, drawn_questions, drawn_systems, exactly_1000, exactly_1001, lazy, ring_of, stuck, widest,
)

ASKING = [reveals, table, lasso]
TELLING = [
    lambda system, **words: is_table(system, ([], {}), **words),
    lambda system, **words: is_lasso(system, ((), ()), **words),
    lambda system, **words: is_table(system, None, **words),
    lambda system, **words: is_lasso(system, None, **words),
]


class Answers(Checks):
    def check_answer(self, expected, system, **words):
        """Check the answer, that the table and the lasso go with it, and that it is the answer of the oracle."""
        self.assertIs(reveals(system, **words), expected)
        told_table, told_lasso = table(system, **words), lasso(system, **words)
        self.assertEqual((told_table is None, told_lasso is None), (not expected, expected))
        if expected:
            self.assertIs(is_table(system, told_table, **words), True)
        else:
            self.assertIs(is_lasso(system, told_lasso, **words), True)
        self.assertIs(is_table(system, told_lasso, **words), False)
        self.assertIs(is_lasso(system, told_table, **words), False)
        rows = {name: list(words[name]) if name in words else [] for name in ("seen", "wanted")}
        self.assertEqual(answer(system, rows["seen"], rows["wanted"]), expected)

    def test_the_questions_of_the_example(self):
        self.check_answer(True, both(), seen=["ask"], wanted=["open"])
        self.check_answer(False, lazy(), seen=["ask"], wanted=["open"])

    def test_it_does_not_matter_which_word_is_done_first(self):
        self.check_answer(True, both().with_diligent([]), seen=["open"], wanted=["ask"])
        self.check_answer(False, both().with_diligent([]), seen=["ask"], wanted=["open"])
        once = Hand(0, [(0, "a", 1), (1, "b", 2), (2, "c", 2)])
        for seen, wanted in [("b", "a"), ("c", "a"), ("c", "b"), ("bc", "a")]:
            self.check_answer(True, System([once], []), seen=list(seen), wanted=[wanted])
        for seen, wanted in [("a", "b"), ("b", "c"), ("ab", "c")]:
            self.check_answer(False, System([once], []), seen=list(seen), wanted=[wanted])
            self.check_answer(True, System([once]), seen=list(seen), wanted=[wanted])

    def test_without_seen_words(self):
        self.check_answer(True, both(), wanted=["open", "rest"])
        self.check_answer(True, both(), seen=(), wanted=["ask", "rest"])
        self.check_answer(True, both(), wanted=["ask"])
        self.check_answer(False, both(), wanted=["rest"])
        self.check_answer(False, lazy(), wanted=["ask"])
        self.check_answer(True, lazy(), wanted=["ask", "rest"])
        self.check_answer(False, both().with_diligent([]), wanted=["ask", "open", "rest"])

    def test_without_wanted_words(self):
        self.check_answer(False, both(), seen=["ask"], wanted=[])
        self.check_answer(False, both(), wanted=())
        never = Hand(0, [(0, "a", 0), (1, "b", 0)])
        self.check_answer(True, System([never]), seen=["b"], wanted=[])
        self.check_answer(True, System([never]), seen=["a", "b"], wanted=[])
        self.check_answer(False, System([never]), seen=["a"], wanted=[])
        either = Hand(0, [(0, "a", 1), (0, "b", 2)])
        self.check_answer(True, System([either]), seen=["a", "b"], wanted=[])
        self.check_answer(False, System([either]), seen=["b"], wanted=[])

    def test_a_word_on_both_sides(self):
        for system in (both(), lazy(), stuck(), both().with_diligent([])):
            for word in ("ask", "open", "rest", "none"):
                self.check_answer(True, system, seen=[word], wanted=[word])
                self.check_answer(True, system, seen=["rest", word], wanted=[word, "ask"])

    def test_words_that_the_system_does_not_have(self):
        for system in (both(), lazy()):
            self.check_answer(True, system, seen=["none"], wanted=[])
            self.check_answer(True, system, seen=["none", "ask"], wanted=["rest"])
            self.check_answer(False, system, seen=["ask"], wanted=["none"])
            self.check_answer(False, system, wanted=["none", "nothing"])
        self.check_answer(True, both(), seen=["ask"], wanted=["open", "none"])
        self.check_answer(True, both(), seen=names(26), wanted=names(26))

    def test_words_in_any_order_twice_and_as_deeds(self):
        for seen in (["ask", "rest"], ("rest", "ask"), ["rest", "ask", "ask", "rest"], Deeds(["rest", "ask"])):
            for wanted in (["open", "none"], ("none", "open", "open"), Deeds(["open", "none"])):
                self.check_answer_of(True, both(), seen, wanted)
                self.check_answer_of(False, lazy(), seen, wanted)

    def check_answer_of(self, expected, system, seen, wanted):
        rows = {"seen": ["ask", "rest"], "wanted": ["none", "open"]}
        self.assertIs(reveals(system, seen=seen, wanted=wanted), expected)
        self.assertEqual(table(system, seen=seen, wanted=wanted), table(system, **rows))
        self.assertEqual(lasso(system, seen=seen, wanted=wanted), lasso(system, **rows))
        self.assertIs(is_table(system, table(system, **rows), seen=seen, wanted=wanted), expected)
        self.assertIs(is_lasso(system, lasso(system, **rows), seen=seen, wanted=wanted), not expected)

    def test_none_some_and_all_diligent(self):
        hands = [Hand.ring(["a", "b"]), Hand.ring(["b", "c"]), Hand.ring(["d"])]
        for diligent, found in [([], False), ([0], True), ([1], True), ([2], False), ([0, 1, 2], True), (None, True)]:
            self.check_answer(found, System(hands, diligent), seen=["a"], wanted=["b"])

    def test_a_hand_that_is_able_now_and_then_need_not_go_on(self):
        helper = Hand(0, [(0, "ask", 0)])
        other = Hand(0, [(0, "ask", 1), (0, "walk", 2), (1, "open", 0), (2, "walk", 0)])
        self.check_answer(False, System([helper, other]), seen=["walk"], wanted=["ask"])
        self.check_answer(True, System([helper, other]), wanted=["ask", "walk"])

    def test_able_counts_also_by_moves_that_are_not_wanted(self):
        # The hand of the word open is able all the time by this word alone, although the question excludes it.
        self.check_answer(True, System([Hand.ring(["open"]), Hand.ring(["rest"])]), seen=["rest"], wanted=["open"])
        self.check_answer(True, System([Hand.ring(["open"]), Hand.ring(["rest"])]), wanted=["open"])

    def test_a_hand_that_can_never_go_on_is_no_reason(self):
        self.check_answer(False, stuck(), seen=["ask"], wanted=["open"])
        self.check_answer(True, stuck(), seen=["open"], wanted=[])

    def test_a_wait_in_two_places_is_one_wait_only_if_the_hand_is_able_in_both(self):
        walker = Hand(0, [(0, "walk", 1), (1, "walk", 0)])
        here = Hand(0, [(0, "call", 0)])
        caller = Hand(0, [(0, "call", 0)])
        self.check_answer(True, System([walker, here, caller]), seen=["walk"], wanted=["call"])
        tied = Hand(0, [(0, "walk", 1), (1, "walk", 0), (0, "call", 0)])
        self.check_answer(False, System([tied, here]), seen=["walk"], wanted=["call"])

    def test_four_hands(self):
        hands = [Hand.ring(["a", "b"]), Hand.ring(["b", "c"]), Hand.ring(["c", "d"]), Hand.ring(["d", "a"])]
        for diligent in (None, [], [2], [0, 3]):
            system = System(hands, diligent)
            for seen in ([], ["a"], ["a", "d"]):
                for wanted in ([], ["b"], ["c", "d"]):
                    self.check_answer(answer(system, seen, wanted), system, seen=seen, wanted=wanted)
        moving = System([ring_of(word, 3) for word in "abcd"])
        self.check_answer(True, moving, seen=["a", "b"], wanted=["d"])
        self.check_answer(False, moving.with_diligent([0, 1, 2]), seen=["a", "b"], wanted=["d"])

    def test_one_hand_of_eight_states(self):
        hand = Hand.ring(names(8))
        self.check_answer(True, System([hand]), seen=["a"], wanted=["h"])
        self.check_answer(True, System([hand]), wanted=["h"])
        self.check_answer(False, System([hand], []), seen=["g"], wanted=["h"])
        self.check_answer(True, System([hand], []), seen=["h"], wanted=["g"])
        self.check_answer(False, System([hand]), seen=names(8), wanted=[])

    def test_kinds_of_values(self):
        self.assertIs(type(reveals(both(), seen=["ask"], wanted=["open"])), bool)
        self.assertIs(type(is_table(both(), None, wanted=[])), bool)
        self.assertIs(type(is_lasso(both(), None, wanted=[])), bool)

    def test_words_are_passed_by_name_only_and_wanted_always(self):
        for call in ASKING + TELLING:
            with self.assertRaises(TypeError):
                call(both(), ["ask"], wanted=["open"])
            with self.assertRaises(TypeError):
                call(both(), seen=["ask"])
        self.assertIs(reveals(system=both(), wanted=["open", "rest"]), True)
        self.assertIs(is_table(system=both(), thing=None, wanted=[]), False)
        self.assertIs(is_lasso(system=both(), thing=None, wanted=[]), False)


class WrongQuestions(Checks):
    def test_values_that_are_no_row(self):
        values = [value for value in other_values() if not isinstance(value, Deeds)] + ["ask", {"ask": 1}, 0, 5]
        for call in ASKING + TELLING:
            for value in values:
                self.check_error(BadWords, value, call, both(), seen=value, wanted=["open"])
                self.check_error(BadWords, value, call, both(), seen=["ask"], wanted=value)
                self.check_error(BadWords, value, call, both(), wanted=value)

    def test_items_that_are_no_names(self):
        for call in ASKING + TELLING:
            for item in bad_names() + ["abcdefghijklm", True, 5, None, "", "A"]:
                self.check_error(BadWords, item, call, both(), seen=["ask", item, None], wanted=["open"])
                self.check_error(BadWords, item, call, both(), seen=["ask"], wanted=("open", item, None))

    def test_seen_comes_before_wanted_and_the_whole_before_the_first_item(self):
        for call in ASKING + TELLING:
            self.check_error(BadWords, "A", call, both(), seen=["ask", "A", ""], wanted="open")
            self.check_error(BadWords, "ask", call, both(), seen="ask", wanted=[None])
            self.check_error(BadWords, "", call, both(), seen=["ask"], wanted=["open", "", "A"])

    def test_bad_words_come_before_too_many(self):
        for call in ASKING + TELLING:
            self.check_error(BadWords, "A", call, widest(), seen=["A"], wanted=[])
            self.check_error(BadWords, "A", call, widest(), wanted=["a", "A"])
            self.check_error(BadWords, 5, call, widest(), wanted=5)

    def test_a_call_that_raises_changes_nothing(self):
        system, row, deeds = lazy(), ["ask", "A"], Deeds(["ask"])
        for call in ASKING + TELLING:
            with self.assertRaises(BadWords):
                call(system, seen=deeds, wanted=row)
        self.assertEqual((system, row, deeds), (lazy(), ["ask", "A"], Deeds(["ask"])))


class TooManyMarked(Checks):
    def check_too_many(self, system, **words):
        for call in ASKING:
            self.check_error(TooMany, 1000, call, system, **words)
        for call in TELLING:
            self.assertIn(call(system, **words), (True, False))

    def test_exactly_1000(self):
        rings = [ring_of("a", 8), ring_of("b", 5), ring_of("c", 5), ring_of("d", 5)]
        for system in (System(rings), exactly_1000()):
            self.assertEqual(len(standings(system)), 1000)
            self.assertIs(reveals(system, wanted=["none"]), False)
            self.assertIs(table(system, wanted=[]), None)
            self.assertIs(is_lasso(system, lasso(system, wanted=[]), wanted=[]), True)
            self.assertIs(reveals(system, seen=["none"], wanted=[]), True)
            ahead, ranks = table(system, seen=["none"], wanted=[])
            self.assertEqual((len(ahead), ranks), (1000, {}))
            self.assertIs(lasso(system, seen=["none"], wanted=[]), None)

    def test_1001(self):
        self.check_too_many(exactly_1001(), wanted=[])
        self.check_too_many(exactly_1001(), seen=["none"], wanted=[])
        self.assertIs(reveals(exactly_1001(), wanted=["z"]), False)
        self.assertIs(reveals(exactly_1001(), seen=["none"], wanted=["z"]), True)

    def test_whatever_the_answer_is(self):
        self.check_too_many(widest(), wanted=[])
        self.check_too_many(widest([]), wanted=["none"])
        self.check_too_many(widest(), seen=["none"], wanted=[])
        self.check_too_many(widest(), seen=["none"], wanted=["none"])
        self.check_too_many(widest(), seen=["none", "a"], wanted=["none"])

    def test_marked_standings_count_and_not_standings(self):
        system = System([ring_of("a", 8), ring_of("b", 5), ring_of("c", 5), ring_of("d", 5)])
        self.check_too_many(system, seen=["a"], wanted=[])
        self.assertIs(reveals(system, seen=["a"], wanted=["b"]), True)
        self.assertEqual(len(met(widest(), ["a"], ["a"])), 512)
        self.assertIs(reveals(widest(), seen=["a"], wanted=["a"]), True)
        self.assertIs(reveals(widest([]), wanted=["a", "b"]), False)
        self.assertIs(reveals(widest(), wanted=["a", "b"]), True)

    def test_the_number_of_the_marked_standings_of_drawn_questions(self):
        wide = [System([ring_of(word, many) for word, many in zip("abc", sizes)], [0])
                for sizes in ((8, 8, 2), (8, 7, 3), (8, 8, 4), (5, 5, 5))]
        for system in wide:
            for seen in ([], ["a"], ["a", "b"], ["a", "b", "c"]):
                many = len(met(system, seen, []))
                if many > 1000:
                    self.check_too_many(system, seen=seen, wanted=[])
                else:
                    self.assertIs(reveals(system, seen=seen, wanted=[]), False)


class NothingChanges(Checks):
    def test_what_was_passed_is_not_changed(self):
        for system in (both(), lazy()):
            seen, wanted, deeds = ["rest", "ask", "ask"], ["open", "none"], Deeds(["ask", "rest"])
            thing = table(both(), seen=seen, wanted=wanted)
            copied = (list(thing[0]), dict(thing[1]))
            for call in ASKING + [lambda *passed, **words: is_table(*passed, thing, **words)]:
                call(system, seen=seen, wanted=wanted)
                call(system, seen=deeds, wanted=wanted)
            self.assertEqual((seen, wanted), (["rest", "ask", "ask"], ["open", "none"]))
            self.assertEqual(deeds, Deeds(["ask", "rest"]))
            self.assertEqual(thing, copied)
        self.assertEqual((system, system.diligent), (lazy(), (1,)))

    def test_what_was_returned_belongs_to_the_caller(self):
        first = table(both(), seen=["ask"], wanted=["open"])
        kept = ([*first[0]], {**first[1]})
        first[0].clear()
        first[1].clear()
        first[1]["no"] = 5
        self.assertEqual(table(both(), seen=["ask"], wanted=["open"]), kept)
        self.assertIs(reveals(both(), seen=["ask"], wanted=["open"]), True)

    def test_later_changes_have_no_effect(self):
        system, seen, wanted = both(), ["ask"], ["open"]
        found = table(system, seen=seen, wanted=wanted)
        seen.append("rest")
        wanted.clear()
        self.assertEqual(found, table(both(), seen=["ask"], wanted=["open"]))

    def test_equal_calls_give_equal_values(self):
        for system in list(drawn_systems(30, 3)) + [crowd()]:
            again = System([Hand(hand.start, list(hand.steps)) for hand in system.hands], list(system.diligent))
            for seen, wanted in drawn_questions(system, 5, 33):
                for call in ASKING:
                    self.assertEqual(call(system, seen=seen, wanted=wanted), call(again, seen=seen, wanted=wanted))
                    self.assertEqual(call(system, seen=seen, wanted=wanted), call(system, seen=seen, wanted=wanted))


class More(Checks):
    def test_more_words_and_diligent_hands_never_turn_a_yes_into_a_no(self):
        draw, yes = Draw(30), 0
        for system in drawn_systems(150, 300):
            for seen, wanted in drawn_questions(system, 5, 301):
                if not reveals(system, seen=seen, wanted=wanted):
                    continue
                yes += 1
                more = [draw.of(system.words), "none"]
                self.assertIs(reveals(system, seen=seen + more, wanted=wanted), True)
                self.assertIs(reveals(system, seen=seen, wanted=wanted + more), True)
                self.assertIs(reveals(system, seen=seen + more[:1], wanted=wanted + more[1:]), True)
                for at in range(len(system.hands)):
                    chosen = sorted({*system.diligent, at})
                    self.assertIs(reveals(system.with_diligent(chosen), seen=seen, wanted=wanted), True)
        self.assertGreater(yes, 100)


if __name__ == "__main__":
    unittest.main()
