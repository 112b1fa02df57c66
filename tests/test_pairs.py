"""Point 26: pairs, and the limit of 1000 pairs for each function that has it."""

import unittest

from surelydone.alike import alike, parting
from surelydone.errors import BadRun, BadWords, TooMany
from surelydone.families import always, done_sets, future, order, possible, revealed, together
from surelydone.hands import Hand
from surelydone.least import against, least_diligent, least_seen, least_wanted
from surelydone.pairs import pair_behind, pair_ways, stays_of
from surelydone.reveals import lasso, reveals, table
from surelydone.systems import System, standings
from tests.helpers import Checks, door, guard, names
from tests.oracle import behind_run, can_stay, met, pairs, subsets
from tests.samples import (
    Draw, both, drawn_questions, drawn_run, drawn_systems, exactly_1000, lazy, never, pairs_1000, pairs_1001, ring_of,
    stuck, widest,
)

# Each function that has the limit, with the least that it asks for.
LIMITED = {
    "done_sets": done_sets, "always": always, "possible": possible, "together": together, "order": order,
    "revealed": lambda system: revealed(system, ["none"]),
    "future": lambda system: future(system, ()),
    "least_seen": lambda system: least_seen(system, among=[], wanted=["a"]),
    "least_wanted": lambda system: least_wanted(system, seen=["none"], among=[]),
    "least_diligent": lambda system: least_diligent(system, seen=["none"], wanted=[]),
    "against": lambda system: against(system, seen=["none"], wanted=["none"]),
    "alike on the left": lambda system: alike(system, both()),
    "alike on the right": lambda system: alike(both(), system),
    "parting on the left": lambda system: parting(system, both()),
    "parting on the right": lambda system: parting(both(), system),
}


class Limit(Checks):
    def test_samples(self):
        self.assertEqual(len(pairs(pairs_1000())), 1000)
        self.assertEqual(len(pairs(pairs_1001())), 1001)

    def check_all(self, system, is_over):
        for name, call in LIMITED.items():
            with self.subTest(name):
                if is_over:
                    self.check_error(TooMany, 1000, call, system)
                else:
                    call(system)

    def test_exactly_1000(self):
        for diligent in (None, [], [1, 2]):
            self.check_all(pairs_1000(diligent), False)

    def test_one_more_than_1000(self):
        for diligent in (None, [], [1], [0, 2]):
            self.check_all(pairs_1001(diligent), True)

    def test_many_more(self):
        self.check_all(widest(), True)
        self.check_all(widest([]), True)

    def test_what_exactly_1000_tell(self):
        system = pairs_1000([0, 1])
        self.assertEqual(done_sets(system), [tuple("ab"), tuple("abc"), tuple("abd"), tuple("abcd")])
        self.assertEqual((always(system), possible(system)), (["a", "b"], ["a", "b", "c", "d"]))
        self.assertEqual(revealed(system, ["d"]), ["a", "b", "d"])
        self.assertEqual(future(system, (("c", (None, None, 0, None)),)), (["a", "b", "c"], ["d"], []))
        self.assertEqual((together(system), order(system)), ([("a", "b"), ("c",), ("d",)], [(1, 0), (2, 0)]))
        self.assertEqual(least_seen(system, among=["a", "c", "d"], wanted=["c"]), [("c",)])
        self.assertEqual(least_wanted(system, seen=["c"], among=["a", "b", "d"]), [("a",), ("b",)])
        self.assertEqual(least_diligent(system, seen=["c"], wanted=["a", "d"]), [(0,), (3,)])
        self.assertIs(alike(system, pairs_1000([1, 0])), True)
        self.assertEqual(parting(system, pairs_1000([0])), (("a",), ("b", "c", "d")))

    def test_pairs_count_and_not_standings(self):
        system = exactly_1000()
        self.assertEqual(len(standings(system)), 1000)
        self.check_all(system, True)
        # Few standings, and each of them with many sets of words.
        one = Hand(0, [(0, word, 0) for word in "abcd"])
        many = System([one, Hand(0, [(0, word, 0) for word in "efgh"]), Hand(0, [(0, word, 0) for word in "ijkl"])])
        self.assertEqual(len(standings(many)), 1)
        self.check_all(many, True)
        few = System([one, many.hands[1], Hand(0, [(0, "i", 0)])])
        self.assertEqual(len(pairs(few)), 512)
        self.check_all(few, False)
        self.check_all(few + Hand(0, [(0, "j", 0)]), True)

    def test_runs_that_no_fair_run_needs_count(self):
        # All fair runs do the same, and the words of the unreached steps count for nothing.
        self.assertEqual(len(pairs(stuck())), len(pairs(stuck().with_diligent([]))))
        hand = Hand(0, [(0, "a", 0), (1, "b", 2), (2, "c", 1)])
        self.assertEqual(len(pairs(System([hand]))), 2)
        self.check_all(System([hand] * 4), False)

    def test_it_counts_from_the_start_of_the_system_that_was_passed(self):
        # The start is left for good: behind it there are 512 pairs less.
        rings = [ring_of(word, 7) for word in "abc"]
        begun = Hand(0, [(0, "d", 0), (0, "e", 1)])
        system = System([begun] + rings)
        self.check_all(system, True)
        self.check_all(system.started_at((1, 0, 0, 0)), False)
        self.check_error(TooMany, 1000, future, system, (("e", (1, None, None, None)),))

    def test_it_is_checked_after_all_other_errors(self):
        for system in (pairs_1001(), widest()):
            self.check_error(BadWords, "A", revealed, system, ["A"])
            self.check_error(BadRun, -1, future, system, [])
            self.check_error(BadRun, 0, future, system, (None,))
            self.check_error(BadWords, "A", least_seen, system, among=["A"], wanted=[])
            self.check_error(BadWords, "A", least_seen, system, among=[], wanted=["A"])
            self.check_error(TooMany, 6, least_seen, system, among=names(7), wanted=[])
            self.check_error(BadWords, "A", least_wanted, system, seen=["A"], among=[])
            self.check_error(BadWords, "A", least_wanted, system, among=["A"])
            self.check_error(TooMany, 6, least_wanted, system, among=names(7))
            for call in (least_diligent, against):
                self.check_error(BadWords, "A", call, system, seen=["A"], wanted=[])
                self.check_error(BadWords, "A", call, system, wanted=["A"])

    def test_no_question_of_1000_pairs_has_more_met_marked_standings(self):
        for seen in ([], ["a"], ["a", "b", "c", "d"], ["a", "b", "c", "d", "none"]):
            for call in (reveals, table, lasso):
                call(pairs_1000(), seen=seen, wanted=["none"])
        for system in drawn_systems(60, 110):
            for seen, wanted in drawn_questions(system, 3, 111):
                self.assertLessEqual(len(met(system, seen, wanted)), len(pairs(system)))


class Helpers(unittest.TestCase):
    """The helper pairs, beside the same search done by the test."""

    def told(self, system, pair):
        states, flags = pair
        return states, frozenset(word for word, flag in zip(system.words, flags) if flag)

    def test_the_pairs_and_their_ways(self):
        several = [both(), lazy(), never(), stuck(), System([door(), guard(), guard()])]
        for system in several + list(drawn_systems(40, 112)):
            expected = pairs(system)
            found = {self.told(system, pair): [(move, self.told(system, after)) for move, after in ways]
                     for pair, ways in pair_ways(system).items()}
            self.assertEqual(found, expected)

    def test_the_pair_behind_a_run(self):
        draw = Draw(113)
        for system in drawn_systems(60, 114):
            run = drawn_run(system, draw, 6)
            self.assertEqual(self.told(system, pair_behind(system, run)), behind_run(system, run))

    def test_stays(self):
        for system in [both(), lazy(), never(), stuck()] + list(drawn_systems(40, 115)):
            ways = pairs(system)
            stays = stays_of(system, pair_ways(system))
            for chosen in subsets(range(len(system.hands))):
                now = system.with_diligent(chosen)
                expected = {tuple(sorted(pair[1])) for pair in ways if can_stay(now, ways, pair)}
                found = {words for words, waiting in stays if not set(waiting) & set(chosen)}
                self.assertEqual(found, expected)


if __name__ == "__main__":
    unittest.main()
