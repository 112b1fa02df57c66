"""Points 30 to 32: least sets of words and of hands, and greatest sets of hands that are not enough."""

import unittest

from surelydone.deeds import Deeds
from surelydone.errors import BadWords, TooMany
from surelydone.hands import Hand
from surelydone.least import against, least_diligent, least_seen, least_wanted
from surelydone.reveals import is_lasso, reveals
from surelydone.systems import System
from tests.helpers import Checks, bad_names, deep_values, door, guard, names, other_values
from tests.oracle import answer, greatest_short, keeps_lasso, least, met, subsets
from tests.samples import both, crowd, drawn_questions, drawn_systems, either, lazy, never, pairs_1000, stuck, widest


def chain_hands():
    """Three hands, of which each one hands a word on to the next one."""
    return [Hand.ring(["a", "b"]), Hand.ring(["b", "c"]), Hand.ring(["d"])]


def words_of_samples():
    """Systems with questions whose rows of words are both long enough to choose among."""
    for at, system in enumerate(drawn_systems(60, 80)):
        for seen, wanted in drawn_questions(system, 2, 81 + at):
            yield system, list(system.words[:4]) + seen[:1] + ["none"], seen[:2], wanted


class Words(Checks):
    """Point 31."""

    def check_sets(self, found, expected):
        self.assertIs(type(found), list)
        self.assertEqual({type(part) for part in found} - {tuple}, set())
        self.assertEqual(found, expected)
        self.assertEqual(found, sorted(found, key=lambda part: (len(part), part)))

    def check_seen(self, system, among, wanted, expected=None):
        found = least_seen(system, among=among, wanted=wanted)
        self.check_sets(found, least(among, lambda part: answer(system, part, wanted)))
        for part in found:
            self.assertEqual(list(part), sorted(set(part)))
            for less in subsets(part):
                self.assertIs(reveals(system, seen=less, wanted=wanted), less == part)
        if expected is not None:
            self.assertEqual(found, expected)
        return found

    def check_wanted(self, system, seen, among, expected=None):
        found = least_wanted(system, seen=seen, among=among)
        self.check_sets(found, least(among, lambda part: answer(system, seen, part)))
        for part in found:
            self.assertEqual(list(part), sorted(set(part)))
            for less in subsets(part):
                self.assertIs(reveals(system, seen=seen, wanted=less), less == part)
        if expected is not None:
            self.assertEqual(found, expected)
        return found

    def test_of_the_example(self):
        self.check_seen(lazy(), ["ask", "open", "rest"], ["ask"], [("ask",), ("open",)])
        self.check_wanted(lazy(), ["ask"], ["open", "rest"], [("open", "rest")])

    def test_no_set_makes_the_answer_yes(self):
        self.check_seen(lazy(), ["rest"], ["ask"], [])
        self.check_seen(lazy(), [], ["ask"], [])
        self.check_seen(both(), ["ask", "open", "rest"], [], [])
        self.check_wanted(lazy(), ["ask"], ["rest"], [])
        self.check_wanted(lazy(), ["ask"], [], [])
        self.check_wanted(lazy(), [], ["none"], [])

    def test_the_empty_set_makes_the_answer_yes(self):
        self.check_seen(both(), ["ask", "open"], ["open"], [()])
        self.check_seen(both(), [], ["open"], [()])
        self.check_seen(both(), ["none"], ["open", "rest"], [()])
        self.check_wanted(stuck(), ["open"], ["ask", "rest"], [()])
        self.check_wanted(stuck(), ["open"], [], [()])
        self.check_wanted(lazy(), ["none", "ask"], ["ask"], [()])

    def test_without_seen_words(self):
        self.check_wanted(both(), [], ["ask", "open", "rest"], [("ask",), ("open",)])
        self.check_wanted(lazy(), [], ["ask", "open", "rest"], [("ask", "rest"), ("open", "rest")])
        self.assertEqual(least_wanted(lazy(), among=["rest", "ask"]), [("ask", "rest")])

    def test_words_in_common(self):
        self.check_seen(lazy(), ["ask", "rest"], ["rest"], [("rest",)])
        self.check_seen(either(), ["left", "right"], ["left"], [("left",)])
        self.check_wanted(lazy(), ["rest"], ["ask", "rest"], [("rest",)])
        self.check_wanted(lazy(), ["none"], ["none"], [()])
        self.check_wanted(lazy(), ["ask", "rest"], ["ask", "rest"], [("ask",), ("rest",)])

    def test_words_that_cannot_be_done_together(self):
        self.check_seen(either(), ["left", "right"], [], [("left", "right")])
        self.check_seen(either(), ["left", "right", "wave"], ["none"], [("left", "right")])
        self.check_wanted(either(), ["left", "right"], ["wave"], [()])

    def test_words_that_the_system_does_not_have(self):
        self.check_seen(both(), ["none", "rest"], [], [("none",)])
        self.check_seen(both(), ["none", "nothing"], ["zzz"], [("none",), ("nothing",)])
        self.check_wanted(lazy(), ["ask"], ["none", "open", "rest", "zzz"], [("open", "rest")])
        self.check_seen(both(), list("abcdef"), [], [(name,) for name in "abcdef"])

    def test_words_that_no_run_does(self):
        self.check_seen(stuck(), ["open", "rest"], [], [("open",)])
        self.check_seen(never(), ["a", "b"], [], [("a",), ("b",)])
        self.check_wanted(never(), [], ["a", "b"], [])
        self.check_wanted(never(), ["a"], ["a", "b"], [()])

    def test_sets_of_several_lengths(self):
        hand = Hand(0, [(0, "a", 1), (0, "b", 2), (0, "d", 3), (2, "c", 4), (3, "c", 5), (5, "e", 6)])
        system = System([hand], [])
        self.check_seen(system, list("abcde"), ["b"], [("b",), ("a", "c"), ("a", "d"), ("a", "e")])
        self.check_wanted(System([hand]), [], list("abcde"), [("a", "c"), ("a", "b", "d"), ("a", "b", "e")])
        self.check_wanted(System([hand]), ["c"], list("abcde"), [("c",), ("b", "d"), ("b", "e")])

    def test_six_words_must_be_taken_together(self):
        hand = Hand(0, [(at, word, at + 1) for at, word in enumerate("abcdef")])
        system = System([Hand(0, [(0, word, 1)]) for word in "abcd"], [])
        self.check_seen(System([hand], []), list("abcdef"), ["f"], [("f",)])
        self.check_wanted(System([hand], []), ["c"], list("abcdef"), [("a",), ("b",), ("c",)])
        self.check_seen(system, list("abcd") + ["none"], [], [("none",)])
        choice = Hand(0, [(0, word, at) for at, word in zip((1, 2, 3, 4), "abcd")] + [(4, "e", 5), (4, "f", 6)])
        self.check_wanted(System([choice]), [], list("abcdef"), [("a", "b", "c", "d"), ("a", "b", "c", "e", "f")])

    def test_the_words_by_kind_and_twice(self):
        for among in (["ask", "open", "rest"], ("rest", "open", "ask", "ask"), Deeds(["rest", "open", "ask"])):
            for wanted in (["ask"], ("ask", "ask"), Deeds(["ask"])):
                self.assertEqual(least_seen(lazy(), among=among, wanted=wanted), [("ask",), ("open",)])
        for seen in (["ask"], ("ask", "ask"), Deeds(["ask"])):
            for among in (["rest", "open"], ("open", "rest", "open"), Deeds(["open", "rest"])):
                self.assertEqual(least_wanted(lazy(), seen=seen, among=among), [("open", "rest")])
                self.assertEqual(least_wanted(system=lazy(), seen=seen, among=among), [("open", "rest")])

    def test_drawn_questions(self):
        lengths = set()
        for system, among, seen, wanted in words_of_samples():
            found = self.check_seen(system, among, wanted) + self.check_wanted(system, seen, among)
            lengths |= {len(part) for part in found}
        self.assertLessEqual({0, 1, 2, 3}, lengths)

    def test_crowd(self):
        self.check_seen(crowd(), list("abcdef"), ["c"])
        self.check_wanted(crowd(), ["e"], list("abcdef"))

    def test_six_and_seven_names(self):
        for many in (0, 1, 6):
            self.check_seen(lazy(), names(many), ["ask"])
            self.check_wanted(lazy(), ["ask"], names(many))
        six = names(6) * 3
        self.assertEqual(least_seen(both(), among=six, wanted=[]), [(name,) for name in names(6)])
        self.assertEqual(least_wanted(both(), seen=["ask"], among=Deeds(six)), [])
        for among in (names(7), tuple(names(7)), Deeds(names(7)), names(6) + ["ask"], names(26), names(7) * 2):
            self.check_error(TooMany, 6, least_seen, both(), among=among, wanted=["ask"])
            self.check_error(TooMany, 6, least_seen, both(), among=among, wanted=[])
            self.check_error(TooMany, 6, least_wanted, both(), seen=["ask"], among=among)
            self.check_error(TooMany, 6, least_wanted, both(), among=among)


class WrongWords(Checks):
    def test_values_that_are_no_row(self):
        for value in [value for value in other_values() if not isinstance(value, Deeds)] + [0, "ask", {"ask": 1}]:
            self.check_error(BadWords, value, least_seen, both(), among=value, wanted=["ask"])
            self.check_error(BadWords, value, least_seen, both(), among=["ask"], wanted=value)
            self.check_error(BadWords, value, least_wanted, both(), seen=value, among=["ask"])
            self.check_error(BadWords, value, least_wanted, both(), among=value)
            for call in (least_diligent, against):
                self.check_error(BadWords, value, call, both(), seen=value, wanted=["ask"])
                self.check_error(BadWords, value, call, both(), wanted=value)

    def test_items_that_are_no_names(self):
        for item in bad_names() + deep_values():
            row = ["ask", item, None]
            self.check_error(BadWords, item, least_seen, both(), among=row, wanted=["ask"])
            self.check_error(BadWords, item, least_seen, both(), among=["ask"], wanted=row)
            self.check_error(BadWords, item, least_wanted, both(), seen=row, among=["ask"])
            self.check_error(BadWords, item, least_wanted, both(), seen=["ask"], among=row)
            for call in (least_diligent, against):
                self.check_error(BadWords, item, call, both(), seen=row, wanted=["ask"])
                self.check_error(BadWords, item, call, both(), seen=["ask"], wanted=row)

    def test_bad_words_in_the_order_of_the_arguments(self):
        self.check_error(BadWords, "A", least_seen, both(), wanted="B", among=["a", "A"])
        self.check_error(BadWords, "A", least_seen, both(), wanted=["B"], among=["A"])
        self.check_error(BadWords, "A", least_wanted, both(), among=["B"], seen=["A"])
        for call in (least_diligent, against):
            self.check_error(BadWords, "A", call, both(), wanted=["B"], seen=["A"])
            self.check_error(BadWords, "B", call, both(), wanted="B", seen=["a"])

    def test_bad_words_come_before_too_many(self):
        many = names(7)
        for system in (both(), widest()):
            self.check_error(BadWords, "A", least_seen, system, among=many + ["A"], wanted=["B"])
            self.check_error(BadWords, "B", least_seen, system, among=many, wanted=["B"])
            self.check_error(BadWords, "A", least_wanted, system, seen=["A"], among=many)
            self.check_error(BadWords, "B", least_wanted, system, seen=["a"], among=many + ["B"])
            self.check_error(TooMany, 6, least_seen, system, among=many, wanted=["b"])
            self.check_error(TooMany, 6, least_wanted, system, among=many)
            for call in (least_diligent, against):
                self.check_error(BadWords, "A", call, system, seen=["A"], wanted="B")
                self.check_error(BadWords, "B", call, system, wanted="B")
        self.check_error(TooMany, 1000, least_seen, widest(), among=names(6), wanted=["b"])
        self.check_error(TooMany, 1000, least_seen, widest(), among=[], wanted=[])
        self.check_error(TooMany, 1000, least_wanted, widest(), among=names(6))
        self.check_error(TooMany, 1000, least_diligent, widest(), seen=["none"], wanted=[])
        self.check_error(TooMany, 1000, against, widest(), seen=["none"], wanted=[])

    def test_words_are_passed_by_name_only(self):
        for call in (least_seen, least_wanted, least_diligent, against):
            with self.assertRaises(TypeError):
                call(both(), ["ask"], ["open"])
        for call in (least_wanted, least_diligent, against):
            with self.assertRaises(TypeError):
                call(both(), seen=["ask"])
        for named in ({"among": []}, {"wanted": []}, {"seen": [], "wanted": [], "among": []}):
            with self.assertRaises(TypeError):
                least_seen(both(), **named)


class Hands(Checks):
    """Point 32."""

    def check_hands(self, system, seen, wanted, expected=None, short=None):
        hands = range(len(system.hands))

        def is_yes(chosen):
            return answer(system.with_diligent(list(chosen)), seen, wanted)

        found = least_diligent(system, seen=seen, wanted=wanted)
        self.assertIs(type(found), list)
        self.assertEqual(found, least(hands, is_yes))
        told = against(system, seen=seen, wanted=wanted)
        self.assertIs(type(told), list)
        self.assertEqual([chosen for chosen, _ in told], greatest_short(hands, is_yes))
        for chosen in subsets(hands):
            enough = reveals(system.with_diligent(chosen), seen=seen, wanted=wanted)
            self.assertIs(not any(set(chosen) <= set(more) for more, _ in told), enough)
            self.assertIs(any(set(chosen) >= set(less) for less in found), enough)
        for item in told:
            self.check_item(system, seen, wanted, item)
        if expected is not None:
            self.assertEqual(found, expected)
            self.assertEqual([chosen for chosen, _ in told], short)
        return found, told

    def check_item(self, system, seen, wanted, item):
        self.assertIs(type(item), tuple)
        chosen, rope = item
        self.assertEqual((type(chosen), type(rope)), (tuple, tuple))
        self.assertEqual({type(hand) for hand in chosen} - {int}, set())
        stem, loop = rope
        self.assertEqual((type(stem), type(loop)), (tuple, tuple))
        now = system.with_diligent(chosen)
        self.assertIs(is_lasso(now, rope, seen=seen, wanted=wanted), True)
        self.assertTrue(keeps_lasso(now, rope, seen, wanted))
        many = len(met(now, seen, wanted))
        self.assertLessEqual(len(stem), many - 1)
        self.assertLessEqual(len(loop), 5 * many)

    def test_of_the_example(self):
        self.check_hands(lazy(), ["ask"], ["open"], [(0,)], [(1,)])
        self.check_hands(both(), ["ask"], ["open"], [(0,)], [(1,)])

    def test_the_diligent_hands_of_the_system_do_not_matter(self):
        for chosen in subsets(range(3)):
            system = System(chain_hands(), chosen)
            self.check_hands(system, ["a"], ["b"], [(0,), (1,)], [(2,)])
            self.check_hands(system, ["a"], ["c"], [(1,)], [(0, 2)])
            self.check_hands(system, ["b"], ["d"], [(2,)], [(0, 1)])
        for system in drawn_systems(40, 82):
            for seen, wanted in drawn_questions(system, 2, 83):
                found = least_diligent(system, seen=seen, wanted=wanted)
                told = against(system, seen=seen, wanted=wanted)
                for chosen in (None, [], [0]):
                    other = system.with_diligent(chosen)
                    self.assertEqual(least_diligent(other, seen=seen, wanted=wanted), found)
                    self.assertEqual(against(other, seen=seen, wanted=wanted), told)

    def test_yes_without_diligent_hands(self):
        self.check_hands(both(), ["open"], ["ask"], [()], [])
        self.check_hands(both(), ["none"], [], [()], [])
        self.check_hands(lazy(), ["rest"], ["rest"], [()], [])
        self.check_hands(stuck(), ["open"], ["rest"], [()], [])

    def test_no_with_all_hands_diligent(self):
        self.check_hands(both(), [], [], [], [(0, 1)])
        self.check_hands(both(), ["ask"], ["rest"], [], [(0, 1)])
        self.check_hands(never(), [], ["a", "b"], [], [(0, 1)])
        self.check_hands(either(), ["wave"], ["left"], [], [(0, 1)])
        self.check_hands(System([door()]), ["open"], ["none"], [], [(0,)])

    def test_one_hand(self):
        self.check_hands(System([door()]), ["ask"], ["open"], [(0,)], [()])
        self.check_hands(System([guard()]), [], ["open", "rest"], [(0,)], [()])

    def test_several_hands_are_needed(self):
        # Each of the first two hands does its word once; the last one does its word only behind both.
        hands = [Hand(0, [(0, "a", 1), (1, "d", 1)]), Hand(0, [(0, "b", 1), (1, "d", 1)]), Hand.ring(["d"])]
        self.check_hands(System(hands), [], ["d"], [(0, 1)], [(0, 2), (1, 2)])
        self.check_hands(System(hands), ["a"], ["d"], [(1,)], [(0, 2)])

    def test_sets_of_different_lengths(self):
        hands = [Hand(0, [(0, "a", 1)]), Hand(0, [(0, "b", 1)]), Hand(0, [(0, "c", 1)]), Hand.ring(["e"])]
        self.check_hands(System(hands), [], ["a", "b"], [(0,), (1,)], [(2, 3)])
        self.check_hands(System(hands), [], ["a", "b", "c", "e"], [(0,), (1,), (2,), (3,)], [()])

    def test_four_hands(self):
        hands = [Hand.ring(["a", "b"]), Hand.ring(["b", "c"]), Hand.ring(["c", "d"]), Hand.ring(["d", "a"])]
        for seen in ([], ["a"], ["b"]):
            for wanted in (["a"], ["c"], ["b", "d"]):
                self.check_hands(System(hands), seen, wanted)

    def test_the_lists_are_in_different_orders(self):
        # The hands 0 and 2 do the word b together, so one of them is enough for it; the word d is behind a and b.
        first = Hand(0, [(0, "b", 1), (1, "d", 1)])
        system = System([first, Hand(0, [(0, "a", 1), (1, "d", 1)]), first])
        self.check_hands(system, [], ["d"], [(0, 1), (1, 2)], [(0, 2), (1,)])
        self.check_hands(system, ["b"], ["d"], [(1,)], [(0, 2)])
        # Least sets are listed by length first, greatest sets are not.
        last = Hand.ring(["c"])
        system = System([first, Hand(0, [(0, "a", 1), (1, "d", 1)]), first, last])
        self.check_hands(system, [], ["c", "d"], [(3,), (0, 1), (1, 2)], [(0, 2), (1,)])

    def test_drawn_questions(self):
        lengths = set()
        for at, system in enumerate(drawn_systems(150, 86)):
            for seen, wanted in drawn_questions(system, 2, 87 + at):
                found, told = self.check_hands(system, seen, wanted)
                lengths |= {(len(found), len(told))}
        self.assertLessEqual({(0, 1), (1, 0), (1, 1)}, lengths)
        self.assertTrue(any(many > 1 for many, _ in lengths) and any(many > 1 for _, many in lengths))

    def test_words_by_kind_twice_and_without_seen_words(self):
        for seen in (["ask"], ("ask", "ask"), Deeds(["ask"])):
            for wanted in (["open", "none"], ("open", "open", "none"), Deeds(["none", "open"])):
                self.assertEqual(least_diligent(both(), seen=seen, wanted=wanted), [(0,)])
                self.assertEqual(against(system=both(), seen=seen, wanted=wanted),
                                 against(lazy(), seen=["ask"], wanted=["open", "none"]))
        self.assertEqual(least_diligent(system=both(), wanted=["rest", "ask"]), [(0,), (1,)])
        self.assertEqual([hands for hands, _ in against(both(), wanted=["rest", "ask"])], [()])

    def test_a_large_system(self):
        self.assertEqual(least_diligent(pairs_1000(), seen=["a"], wanted=["b", "c"]), [(1,), (2,)])
        (item,) = against(pairs_1000([]), seen=["a"], wanted=["b", "c"])
        self.assertEqual(item[0], (0, 3))
        self.assertIs(is_lasso(pairs_1000([0, 3]), item[1], seen=["a"], wanted=["b", "c"]), True)


if __name__ == "__main__":
    unittest.main()
