"""Point 25: done sets, and that they answer all questions."""

import itertools
import unittest

from surelydone.errors import TooMany
from surelydone.families import done_sets
from surelydone.hands import Hand
from surelydone.reveals import lasso, reveals
from surelydone.runs import fair_run, words_of
from surelydone.systems import System
from tests.helpers import Checks, door, guard, names
from tests.oracle import done_words, fair, holds, subsets
from tests.samples import (
    Draw, both, crowd, drawn_questions, drawn_run, drawn_systems, either, lazy, never, ring_of, shapes, short_runs,
    stuck,
)


class DoneSets(Checks):
    def check_sets(self, system, expected=None):
        """Check the form and the order of the done sets, and that a search of the test's own finds the same."""
        found = done_sets(system)
        self.assertIs(type(found), list)
        self.assertNotEqual(found, [])
        for words in found:
            self.assertIs(type(words), tuple)
            self.assertEqual(list(words), sorted(set(words)))
            self.assertEqual({type(word) for word in words} - {str}, set())
            self.assertLessEqual(set(words), set(system.words))
        self.assertEqual(found, sorted(found, key=lambda words: (len(words), words)))
        self.assertEqual(len(found), len(set(found)))
        self.assertEqual(found, done_words(system))
        if expected is not None:
            self.assertEqual(found, expected)
        return found

    def test_the_examples(self):
        self.check_sets(both(), [("ask", "open"), ("ask", "open", "rest")])
        self.check_sets(lazy(), [("rest",), ("ask", "open"), ("ask", "rest"), ("ask", "open", "rest")])

    def test_none_some_and_all_diligent(self):
        hands = [Hand(0, [(0, "a", 1)]), Hand(0, [(0, "b", 1), (1, "c", 2)])]
        chains = ["", "b", "bc"]
        without = sorted([tuple(one + other) for one in ("", "a") for other in chains], key=lambda row: (len(row), row))
        self.check_sets(System(hands, []), without)
        self.check_sets(System(hands, [0]), [("a",), ("a", "b"), ("a", "b", "c")])
        self.check_sets(System(hands, [1]), [("b", "c"), ("a", "b", "c")])
        self.check_sets(System(hands), [("a", "b", "c")])
        self.check_sets(System(hands, None), [("a", "b", "c")])

    def test_no_diligent_hands_of_the_example(self):
        self.check_sets(both().with_diligent([]), [
            (), ("ask",), ("rest",), ("ask", "open"), ("ask", "rest"), ("ask", "open", "rest"),
        ])

    def test_no_fair_run_does_anything(self):
        for diligent in (None, [], [0], [1]):
            self.check_sets(never(diligent), [()])
        lonely = Hand(0, [(1, "a", 0)])
        self.check_sets(System([lonely]), [()])
        self.check_sets(System([lonely, lonely], []), [()])
        # The first hand could go on alone, and never can: the second one never does this word.
        self.check_sets(System([Hand.ring(["b"]), Hand(0, [(1, "b", 1)])]), [()])

    def test_the_empty_set_beside_others(self):
        self.check_sets(System([Hand(0, [(0, "a", 1)])], []), [(), ("a",)])
        self.check_sets(System([Hand.ring(["a", "b"])], []), [(), ("a",), ("a", "b")])
        self.check_sets(System([Hand.ring(["a", "b"])]), [("a", "b")])

    def test_words_that_a_hand_has_and_can_never_do(self):
        hand = Hand(0, [(0, "a", 0), (1, "b", 0), (7, "c", 7)])
        self.check_sets(System([hand]), [("a",)])
        self.check_sets(System([hand], []), [(), ("a",)])
        # The other hand has the word b, too, so it can never do it either.
        self.check_sets(System([hand, Hand.ring(["b", "d"])]), [("a",)])
        self.check_sets(System([hand, Hand(0, [(0, "b", 1), (0, "d", 0)])]), [("a", "d")])

    def test_a_hand_whose_word_another_hand_can_never_do(self):
        self.check_sets(stuck(), [("ask", "rest")])
        self.check_sets(stuck().with_diligent([0]), [("ask",), ("ask", "rest")])
        self.check_sets(stuck().with_diligent([1]), [("rest",), ("ask", "rest")])

    def test_a_choice_that_is_made_once(self):
        self.check_sets(either(), [("left", "wave"), ("right", "wave")])
        self.check_sets(either([0]), [("left",), ("right",), ("left", "wave"), ("right", "wave")])
        self.check_sets(either([1]), [("wave",), ("left", "wave"), ("right", "wave")])

    def test_a_hand_that_is_able_now_and_then_need_not_go_on(self):
        helper = Hand(0, [(0, "ask", 0)])
        other = Hand(0, [(0, "ask", 1), (0, "walk", 2), (1, "open", 0), (2, "walk", 0)])
        sets = self.check_sets(System([helper, other], [0]))
        self.assertIn(("walk",), sets)
        self.assertNotIn((), sets)

    def test_order_by_length_then_ascending(self):
        system = System([Hand(0, [(0, "b", 1), (0, "a", 1), (0, "c", 2), (2, "aa", 3)])], [])
        self.check_sets(system, [(), ("a",), ("b",), ("c",), ("aa", "c")])
        hand = Hand(0, [(0, "z", 1), (1, "y", 2), (0, "b", 3), (3, "x", 2)])
        self.check_sets(System([hand]), [("b", "x"), ("y", "z")])

    def test_each_done_set_once(self):
        # Many runs, and several parts in which a run can stay, have the same words.
        hand = Hand(0, [(0, "a", 1), (0, "a", 2), (1, "a", 1), (2, "a", 3), (3, "a", 3)])
        self.check_sets(System([hand]), [("a",)])
        self.check_sets(System([hand, hand], [0]), [("a",)])
        self.check_sets(System([hand], []), [(), ("a",)])

    def test_all_subsets(self):
        hand = Hand(0, [(0, word, 0) for word in "cabd"])
        self.check_sets(System([hand], []), subsets("abcd"))
        self.check_sets(System([hand]), subsets("abcd")[1:])
        # The words e to h are those of a second hand that must do one of them, again and again.
        other = Hand(0, [(0, word, 0) for word in "efgh"])
        found = done_sets(System([hand, other], [1]))
        self.assertEqual(found, [part for part in subsets("abcdefgh") if set(part) & set("efgh")])

    def test_twelve_words_and_four_hands(self):
        chains = ["abc", "def", "ghi", "jkl"]
        system = System([Hand(0, [(at, word, at + 1) for at, word in enumerate(words)]) for words in chains])
        self.assertEqual(done_sets(system), [tuple(names(12))])
        for diligent in ([], [1], [0, 3]):
            begun = [[words] if at in diligent else [words[:many] for many in range(4)]
                     for at, words in enumerate(chains)]
            sets = [tuple("".join(parts)) for parts in itertools.product(*begun)]
            sets = sorted(sets, key=lambda words: (len(words), words))
            self.assertEqual(done_sets(system.with_diligent(diligent)), sets)

    def test_words_that_lead_from_hand_to_hand(self):
        system = System([Hand.ring(list(words)) for words in ("ab", "bc", "cd", "de")], [])
        self.check_sets(system)
        self.check_sets(system.with_diligent(None), [tuple("abcde")])
        self.check_sets(system.with_diligent([3]))

    def test_a_large_system(self):
        system = System([ring_of(word, 5) for word in "abc"], [0, 2])
        self.assertEqual(done_sets(system), [("a", "c"), ("a", "b", "c")])

    def test_crowds_and_shapes(self):
        for diligent in ([], [0, 2]):
            self.check_sets(crowd().with_diligent(diligent))
        for system in list(shapes())[::9]:
            self.check_sets(system)
            self.check_sets(system.with_diligent(None))

    def test_drawn_systems(self):
        many = 0
        for system in drawn_systems(250, 61):
            many = max(many, len(self.check_sets(system)))
        self.assertGreater(many, 10)

    def test_drawn_systems_with_all_none_and_each_hand_diligent(self):
        for system in drawn_systems(40, 62):
            for chosen in [None, []] + [[at] for at in range(len(system.hands))]:
                self.check_sets(system.with_diligent(chosen))

    def test_the_argument_by_its_name(self):
        self.assertEqual(done_sets(system=both()), done_sets(both()))
        with self.assertRaises(TooMany):
            done_sets(system=System([ring_of(word, 8) for word in "abcd"]))


class DoneByRuns(Checks):
    def test_the_words_of_each_fair_run_are_a_done_set(self):
        many = 0
        for system in [both(), lazy(), stuck(), either([])] + list(drawn_systems(40, 63)):
            sets = done_sets(system)
            for run in short_runs(system, 3)[:80]:
                for at in range(len(run) + 1):
                    if fair(system, run[:at], run[at:]):
                        self.assertIn(tuple(sorted({move[0] for move in run})), sets)
                        many += 1
        self.assertGreater(many, 300)

    def test_what_goes_on_fairly(self):
        draw = Draw(64)
        for system in drawn_systems(150, 65):
            stem, loop = fair_run(system, drawn_run(system, draw, 6))
            self.assertIn(tuple(sorted(set(words_of(system, stem + loop)))), done_sets(system))

    def test_some_fair_run_does_exactly_the_words_of_each_done_set(self):
        for system in [both(), lazy(), stuck(), never(), either(), crowd()] + list(drawn_systems(60, 66)):
            for words in done_sets(system):
                others = [word for word in system.words if word not in words]
                stem, loop = lasso(system, seen=words, wanted=others)
                self.assertTrue(fair(system, stem, loop))
                self.assertEqual(tuple(sorted({move[0] for move in stem + loop})), words)


class AllAnswers(Checks):
    def test_drawn_questions(self):
        told = {True: 0, False: 0}
        for at, system in enumerate(drawn_systems(300, 67)):
            sets = done_sets(system)
            for seen, wanted in drawn_questions(system, 6, at):
                found = reveals(system, seen=seen, wanted=wanted)
                self.assertIs(holds(sets, seen, wanted), found)
                told[found] += 1
        self.assertGreater(min(told.values()), 300)

    def test_every_question_of_small_systems(self):
        systems = [both(), lazy(), both().with_diligent([]), stuck(), never(), either(),
                   System([door(), guard(), Hand.ring(["rest", "ask"])], [0, 2])]
        for system in systems:
            sets = done_sets(system)
            rows = subsets(system.words + ("none",))
            for seen, wanted in itertools.product(rows, rows):
                self.assertIs(reveals(system, seen=seen, wanted=wanted), holds(sets, seen, wanted))


if __name__ == "__main__":
    unittest.main()
