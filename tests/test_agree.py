"""Points 18 to 24 together: reveals, table and lasso agree, and with a search over the marked standings."""

import unittest

from surelydone.hands import Hand
from surelydone.reveals import is_lasso, is_table, lasso, reveals, table
from surelydone.systems import System
from tests.helpers import Checks
from tests.oracle import answer, keeps_conditions, keeps_lasso, met
from tests.samples import Draw, drawn_questions, drawn_systems, shapes


class Agree(Checks):
    def check_question(self, system, seen, wanted):
        """Check all that the program tells of a question, and return the answer."""
        expected = answer(system, seen, wanted)
        words = {"seen": seen, "wanted": wanted}
        self.assertIs(reveals(system, **words), expected)
        told, rope = table(system, **words), lasso(system, **words)
        self.assertEqual((told is not None, rope is not None), (expected, not expected))
        self.assertIs(is_table(system, told, **words), expected)
        self.assertIs(is_lasso(system, rope, **words), not expected)
        ways = met(system, seen, wanted)
        if expected:
            self.assertTrue(keeps_conditions(system, told, seen, wanted))
            self.assertEqual(told[0] + list(told[1]), sorted(ways, key=lambda marked: (all(marked[1]), marked)))
        else:
            self.assertTrue(keeps_lasso(system, rope, seen, wanted))
            self.assertLess(len(rope[0]), len(ways))
            self.assertLessEqual(len(rope[1]), 5 * len(ways))
        return expected

    def check_questions(self, systems, many, seed):
        told = {True: 0, False: 0}
        for system in systems:
            for seen, wanted in drawn_questions(system, many, seed):
                told[self.check_question(system, seen, wanted)] += 1
        return told

    def test_drawn_systems(self):
        told = self.check_questions(drawn_systems(700, 24), 4, 240)
        self.assertGreater(told[True], 500)
        self.assertGreater(told[False], 500)

    def test_drawn_systems_with_all_none_and_each_hand_diligent(self):
        for system in drawn_systems(60, 25):
            for chosen in [None, []] + [[at] for at in range(len(system.hands))]:
                self.check_questions([system.with_diligent(chosen)], 3, 250)

    def test_some_systems_of_every_kind(self):
        self.check_questions(list(shapes())[::5], 3, 26)

    def test_every_question_of_some_systems(self):
        rows = [[], ["a"], ["b"], ["c"], ["a", "b"], ["a", "c"], ["b", "c"], ["a", "b", "c"]]
        draw = Draw(27)
        for _ in range(25):
            hands = []
            for _ in range(2):
                steps = [(draw.below(3), draw.of("abc"), draw.below(3)) for _ in range(4)]
                hands.append(Hand(0, sorted(set(steps))))
            system = System(hands, [at for at in range(2) if draw.below(3)])
            for seen in rows:
                for wanted in rows:
                    self.check_question(system, seen, wanted)


if __name__ == "__main__":
    unittest.main()
