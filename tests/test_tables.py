"""Points 19 to 22: tables."""

import unittest

from surelydone.deeds import Deeds
from surelydone.hands import Hand
from surelydone.kinds import is_whole
from surelydone.reveals import is_table, reveals, table
from surelydone.systems import System
from tests.helpers import Checks, deep_values, door, nested, other_values, round_itself, rows_that_are_wrong_items
from tests.oracle import first_marked, keeps_conditions, met
from tests.samples import Draw, both, drawn_questions, drawn_systems, exactly_1001, lazy, ring_of, widest

ASKED = {"seen": ["ask"], "wanted": ["open"]}
FIRST, BEHIND = ((0, 0), (False,)), ((1, 0), (True,))


def good():
    """The table of the document's example."""
    return [FIRST], {BEHIND: (0, 0)}


def line():
    """A hand that goes on once, lingers, goes on once more and is done, beside a hand that may always wave."""
    return System([Hand(0, [(0, "go", 1), (1, "far", 2), (2, "home", 3)]), Hand.ring(["wave"])], [0])


LINE = {"seen": ["go"], "wanted": ["home"]}


def table_of_line():
    """The way far takes the hand along, so the rank goes down there; wave keeps the rank and the hand."""
    return [((0, 0), (False,))], {((1, 0), (True,)): (5, 0), ((2, 0), (True,)): (2, 0)}


def odd_values():
    """Values of other kinds for each place in a table."""
    odd = other_values() + rows_that_are_wrong_items() + deep_values() + [0, 1, -1, 5, 10 ** 30, "0", nested(tuple, 7)]
    return odd + [round_itself()]


def hashable(values):
    """Those of the values that can be the key of a dict."""
    found = []
    for value in values:
        try:
            found.append({value: 0} and value)
        except TypeError:
            pass
    return found


class Tables(Checks):
    def check_table(self, system, seen, wanted):
        """Check the form and the conditions of the table of a question whose answer is yes."""
        found = table(system, seen=seen, wanted=wanted)
        self.assertIs(type(found), tuple)
        ahead, ranks = found
        self.assertIs(type(ahead), list)
        self.assertIs(type(ranks), dict)
        ways = met(system, seen, wanted)
        self.assertEqual(ahead, sorted(marked for marked in ways if not all(marked[1])))
        self.assertEqual(list(ranks), sorted(marked for marked in ways if all(marked[1])))
        for states, flags in ahead + list(ranks):
            self.assertEqual({type(states), type(flags)}, {tuple})
            self.assertTrue(all(is_whole(state) for state in states))
            self.assertTrue(all(type(flag) is bool for flag in flags))
            self.assertEqual(len(flags), len(set(seen)))
        for worth in ranks.values():
            self.assertIs(type(worth), tuple)
            rank, hand = worth
            self.assertTrue(is_whole(rank) and is_whole(hand) and rank >= 0)
            self.assertIn(hand, system.diligent)
        self.assertTrue(keeps_conditions(system, found, seen, wanted))
        self.assertIs(is_table(system, found, seen=seen, wanted=wanted), True)
        return found

    def test_the_table_of_the_example(self):
        ahead, ranks = self.check_table(both(), ["ask"], ["open"])
        self.assertEqual((ahead, list(ranks), ranks[BEHIND][1]), ([FIRST], [BEHIND], 0))
        self.assertIsNone(table(lazy(), **ASKED))

    def test_nothing_open(self):
        ahead, ranks = self.check_table(both(), ["none"], ["open"])
        self.assertEqual((ahead, ranks), ([((0, 0), (False,)), ((1, 0), (False,))], {}))

    def test_all_open(self):
        ahead, ranks = self.check_table(both(), [], ["ask", "rest"])
        self.assertEqual((ahead, list(ranks)), ([], [((0, 0), ())]))

    def test_flags_stand_in_the_order_of_the_names(self):
        system = System([Hand.ring(["b", "a", "c"])])
        for seen in (["b", "a"], ["a", "b", "a"], Deeds(["b", "a"])):
            ahead, ranks = table(system, seen=seen, wanted=["c"])
            self.assertEqual(ahead, [((0,), (False, False)), ((1,), (False, True))])
            self.assertEqual(list(ranks), [((2,), (True, True))])

    def test_ranks_go_down_along_the_ways(self):
        found = self.check_table(line(), ["go"], ["home"])
        self.assertGreater(found[1][((1, 0), (True,))][0], found[1][((2, 0), (True,))][0])

    def test_other_hands_at_other_places(self):
        # At first the hand one is able by the word go, which leads on for good; there the hand first is able.
        one = Hand(0, [(0, "stay", 0), (0, "go", 1)])
        first = Hand(0, [(0, "go", 1), (1, "done", 1)])
        found = self.check_table(System([one, first, Hand.ring(["stay"])], [0, 1]), [], ["done", "stay"])
        self.assertEqual(len(found[1]), 2)

    def test_many_places_of_one_part(self):
        system = System([ring_of("a", 8), ring_of("b", 8), ring_of("c", 8), Hand.ring(["d", "d"])])
        found = self.check_table(system, [], ["d"])
        self.assertEqual(len(found[1]), 512)
        self.assertEqual({hand for _, hand in found[1].values()}, {3})

    def test_drawn_questions(self):
        many = 0
        for system in drawn_systems(200, 21):
            for seen, wanted in drawn_questions(system, 5, 210):
                if reveals(system, seen=seen, wanted=wanted):
                    self.check_table(system, seen, wanted)
                    many += 1
                else:
                    self.assertIsNone(table(system, seen=seen, wanted=wanted))
        self.assertGreater(many, 200)


class LineChecks(Checks):
    def check_line(self, expected, change, system=None):
        """Change the table of the line, and check whether it still is one."""
        thing = change(*table_of_line())
        self.assertIs(is_table(system or line(), thing, **LINE), expected)


class LetBy(LineChecks):
    def test_the_tables_themselves(self):
        self.assertIs(is_table(both(), good(), **ASKED), True)
        self.assertIs(is_table(lazy(), good(), **ASKED), False)
        self.check_line(True, lambda ahead, ranks: (ahead, ranks))

    def test_any_order_and_several_times(self):
        self.check_line(True, lambda ahead, ranks: (ahead * 5, ranks))
        self.check_line(True, lambda ahead, ranks: (ahead, {key: ranks[key] for key in sorted(ranks, reverse=True)}))
        ahead, ranks = table(both(), seen=["rest", "ask"], wanted=["open"])
        self.assertGreater(len(ahead), 1)
        asked = {"seen": ("ask", "rest", "ask"), "wanted": Deeds(["open"])}
        self.assertIs(is_table(both(), (ahead[::-1] + ahead, ranks), **asked), True)

    def test_marked_standings_that_are_not_met(self):
        # The word go leads to the second place only, so these are met by no run of the question.
        lost = [((3, 0), (False,)), ((3, 0), (False,))]
        self.check_line(True, lambda ahead, ranks: (lost + ahead, ranks))
        self.check_line(True, lambda ahead, ranks: (ahead, {**ranks, ((0, 0), (True,)): (9, 0)}))
        self.check_line(False, lambda ahead, ranks: (ahead, {**ranks, ((3, 0), (True,)): (0, 0)}))
        self.check_line(True, lambda ahead, ranks: (ahead + [((1, 0), (False,)), ((2, 0), (False,))], ranks))
        self.check_line(False, lambda ahead, ranks: (ahead + [((1, 0), (False,))], ranks))

    def test_a_marked_standing_that_no_run_meets_but_that_is_one(self):
        system = System([door(), door()])
        self.assertIs(is_table(system, ([], {((0, 0), ()): (0, 0)}), wanted=["ask"]), True)
        self.assertIs(is_table(system, ([], {((0, 0), ()): (0, 0), ((0, 1), ()): (0, 0)}), wanted=["ask"]), False)
        thing = ([((0, 0), (False,)), ((1, 1), (False,)), ((0, 1), (False,)), ((1, 0), (False,))], {})
        self.assertIs(is_table(system, thing, seen=["none"], wanted=[]), True)

    def test_any_ranks_of_at_least_0(self):
        for high, low, found in [(5, 2, True), (1, 0, True), (10 ** 40, 10 ** 39, True), (0, -1, False),
                                 (-1, -2, False), (0, 0, False), (2, 5, False)]:
            self.check_line(found, lambda ahead, ranks: (
                ahead, {((1, 0), (True,)): (high, 0), ((2, 0), (True,)): (low, 0)}))


class Conditions(LineChecks):
    """Each condition of point 20, broken alone."""

    def test_the_first_marked_standing_is_there(self):
        self.assertIs(is_table(both(), ([], {}), wanted=["ask", "rest"]), False)
        self.assertIs(is_table(both(), ([], {}), **ASKED), False)
        self.check_line(False, lambda ahead, ranks: ([], ranks))
        self.check_line(False, lambda ahead, ranks: ([((3, 0), (False,))], ranks))

    def test_ahead_leads_to_what_is_there(self):
        self.check_line(False, lambda ahead, ranks: (ahead, {}))
        self.check_line(False, lambda ahead, ranks: (ahead, {((2, 0), (True,)): (2, 0)}))
        system = System([Hand.ring(["a", "b", "c"])])
        found = [((0,), (False,)), ((1,), (False,)), ((2,), (False,))]
        self.assertIs(is_table(system, (found, {}), seen=["none"], wanted=[]), True)
        for at in range(3):
            thing = (found[:at] + found[at + 1:], {})
            self.assertIs(is_table(system, thing, seen=["none"], wanted=[]), False)
        self.assertIs(is_table(system, (found[:1], {}), seen=["none"], wanted=["a"]), True)
        self.assertIs(is_table(system, (found[:2], {}), seen=["none"], wanted=["b"]), True)

    def test_the_hand_is_diligent(self):
        self.check_line(False, lambda ahead, ranks: (ahead, ranks), system=line().with_diligent([]))
        self.check_line(False, lambda ahead, ranks: (ahead, ranks), system=line().with_diligent([1]))
        self.check_line(True, lambda ahead, ranks: (ahead, ranks), system=line().with_diligent([0, 1]))

    def test_the_hand_is_able(self):
        # The third hand is diligent, is taken along by no move, and is not able.
        system = System([Hand.ring(["rest"]), Hand.ring(["open"]), Hand(0, [(0, "never", 1)]),
                         Hand(0, [(1, "never", 1)])])
        for hand, found in [(0, False), (1, True), (2, False), (3, False)]:
            self.assertIs(is_table(system, ([], {((0, 0, 0, 0), ()): (0, hand)}), wanted=["open"]), found)

    def test_a_move_leads_to_a_key(self):
        self.check_line(False, lambda ahead, ranks: (ahead, {((1, 0), (True,)): (5, 0)}))
        thing = ([], {((0, 0), ()): (3, 0)})
        self.assertIs(is_table(both(), thing, wanted=["ask"]), True)
        self.assertIs(is_table(both(), thing, wanted=["open"]), False)
        # What is open may not lead to what is ahead, and never does: all flags stay.
        self.assertIs(is_table(both(), ([((1, 0), (False,))], {((0, 0), (True,)): (0, 0)}), **ASKED), False)

    def test_the_rank_is_not_greater(self):
        system = System([Hand(0, [(0, "a", 1), (1, "a", 1)]), Hand.ring(["b"])])
        for rank, later, found in [(1, 1, True), (1, 0, True), (1, 2, False), (0, 1, False), (0, 0, True)]:
            thing = ([], {((0, 0), ()): (rank, 1), ((1, 0), ()): (later, 1)})
            self.assertIs(is_table(system, thing, wanted=["b"]), found)

    def test_the_rank_is_less_if_the_hand_is_taken_along(self):
        self.check_line(False, lambda ahead, ranks: (
            ahead, {((1, 0), (True,)): (2, 0), ((2, 0), (True,)): (2, 0)}))
        self.assertIs(is_table(both(), ([], {((0, 0), ()): (0, 0)}), wanted=["ask"]), True)
        self.assertIs(is_table(both(), ([], {((0, 0), ()): (0, 1)}), wanted=["ask"]), False)

    def test_the_hand_is_the_same_if_the_rank_is_the_same(self):
        system = System([Hand(0, [(0, "a", 1), (1, "a", 1)]), Hand.ring(["b"]), Hand.ring(["b"])])
        for worth, later, found in [((1, 1), (1, 1), True), ((1, 1), (1, 2), False), ((1, 2), (1, 1), False),
                                    ((1, 1), (0, 2), True), ((1, 2), (0, 1), True)]:
            thing = ([], {((0, 0, 0), ()): worth, ((1, 0, 0), ()): later})
            self.assertIs(is_table(system, thing, wanted=["b"]), found)

    def test_drawn_changes_of_tables(self):
        draw, let_by, seen_wrong = Draw(20), 0, 0
        for system in drawn_systems(120, 200):
            for seen, wanted in drawn_questions(system, 4, 201):
                found = table(system, seen=seen, wanted=wanted)
                if found is None:
                    continue
                for _ in range(6):
                    thing = self.changed(draw, system, found)
                    expected = keeps_conditions(system, thing, seen, wanted)
                    self.assertIs(is_table(system, thing, seen=seen, wanted=wanted), expected)
                    let_by, seen_wrong = let_by + expected, seen_wrong + (not expected)
        self.assertGreater(let_by, 100)
        self.assertGreater(seen_wrong, 100)

    def changed(self, draw, system, found):
        """The table with one change that keeps its form."""
        ahead, ranks = list(found[0]), dict(found[1])
        pick = draw.below(5)
        if pick == 0 and ahead:
            ahead.pop(draw.below(len(ahead)))
        elif pick == 1 and ranks:
            del ranks[draw.of(list(ranks))]
        elif pick == 2 and ranks:
            key = draw.of(list(ranks))
            ranks[key] = (ranks[key][0], draw.below(len(system.hands)))
        elif ranks:
            key = draw.of(list(ranks))
            ranks[key] = (max(0, ranks[key][0] + draw.below(3) - 1), ranks[key][1])
        return ahead, ranks


class AnyValue(Checks):
    def check_none(self, things, asked=ASKED, system=None):
        for thing in things:
            self.assertIs(is_table(system or both(), thing, **asked), False)

    def test_other_kinds(self):
        self.check_none(odd_values())
        self.check_none(odd_values(), {"wanted": ["ask", "rest"]})

    def test_a_list_for_the_tuple_and_other_lengths(self):
        ahead, ranks = good()
        self.check_none([[ahead, ranks], (ahead,), (ranks,), (ahead, ranks, ranks), (ranks, ahead), (ahead, ahead),
                         (ranks, ranks), (good(),), [good()], (), {0: ahead, 1: ranks}])

    def test_parts_of_other_kinds(self):
        ahead, ranks = good()
        self.check_none([(odd, ranks) for odd in odd_values() + [tuple(ahead), set(ahead), {FIRST: 0}, FIRST]])
        self.check_none([(ahead, odd) for odd in odd_values() + [list(ranks.items()), tuple(ranks.items()), BEHIND]])

    def test_items_of_ahead(self):
        ranks = good()[1]
        wrong = odd_values() + [
            [(0, 0), (False,)], ([0, 0], (False,)), ((0, 0), [False]), ((0, 0), (0,)), ((False, 0), (False,)),
            ((0, 0), ()), ((0, 0), (False, False)), ((0, 0), False), ((0, 0), (None,)), ((0.0, 0), (False,)),
            ((0,), (False,)), ((0, 0, 0), (False,)), ((0, 1), (False,)), ((2, 0), (False,)), ((-1, 0), (False,)),
            ((0, 0), (True,)), BEHIND, ((0, 0),), ((0, 0), (False,), 0), ((False,), (0, 0)), (0, 0), ((), (False,)),
        ]
        for item in wrong:
            self.check_none([([FIRST, item], ranks), ([item, FIRST], ranks), ([item], ranks)])
        for deep in deep_values():
            self.check_none([([FIRST, (deep, (False,))], ranks), ([FIRST, ((0, 0), deep)], ranks),
                             ([FIRST, ((deep, 0), (False,))], ranks), ([FIRST, ((0, 0), (deep,))], ranks)])

    def test_keys_of_ranks(self):
        ahead = good()[0]
        wrong = hashable(odd_values()) + [
            ((1, 0), (1,)), ((True, 0), (True,)), ((1.0, 0), (True,)), ((1, False), (True,)), ((1, 0), ()),
            ((1, 0), (True, True)), ((1, 0), True), ((1,), (True,)), ((1, 0, 0), (True,)), ((1, 1), (True,)),
            ((1, 0), (False,)), FIRST, ((1, 0),), ((1, 0), (True,), 0), (nested(tuple, 450), (True,)),
            ((1, 0), nested(tuple, 450)), ((nested(tuple, 450), 0), (True,)), frozenset(), frozenset({BEHIND}),
        ]
        for key in wrong:
            self.check_none([(ahead, {key: (0, 0)}), (ahead, {key: (0, 0), BEHIND: (0, 0)})
                             if key != BEHIND else (ahead, {key: (0, 0)})])
            if key != BEHIND:
                self.check_none([(ahead, {BEHIND: (0, 0), key: (0, 0)})])

    def test_values_of_ranks(self):
        ahead = good()[0]
        wrong = odd_values() + [
            [0, 0], (0,), (0, 0, 0), (0, True), (False, 0), (True, False), (0.0, 0), (0, 0.0), (0, None), (None, 0),
            ("0", 0), (0, "0"), (-1, 0), (0, -1), (0, -2), (0, 2), (0, 1), (0, 10 ** 30), ((0, 0),), (0, (0,)),
        ]
        for worth in wrong:
            self.check_none([(ahead, {BEHIND: worth})])
        for deep in deep_values():
            self.check_none([(ahead, {BEHIND: deep}), (ahead, {BEHIND: (deep, 0)}), (ahead, {BEHIND: (0, deep)})])

    def test_flags_are_not_integers_and_integers_are_not_flags(self):
        ahead, ranks = good()
        self.assertIs(is_table(both(), (ahead, {BEHIND: (0, 0)}), **ASKED), True)
        self.check_none([([((0, 0), (0,))], ranks), ([((False, False), (False,))], ranks),
                         (ahead, {((1, 0), (1,)): (0, 0)}), (ahead, {BEHIND: (False, 0)}),
                         (ahead, {BEHIND: (0, False)})])

    def test_a_table_of_another_question(self):
        self.check_none([good()], {"seen": [], "wanted": ["open"]})
        self.check_none([good()], {"seen": ["ask"], "wanted": []})
        self.check_none([good()], {"seen": ["ask"], "wanted": ["rest"]})
        self.check_none([good()], {"seen": ["ask", "rest"], "wanted": ["open"]})
        self.assertIs(is_table(both(), good(), seen=["ask"], wanted=["open", "rest"]), True)

    def test_no_table_where_the_answer_is_no(self):
        for system in drawn_systems(60, 22):
            for seen, wanted in drawn_questions(system, 4, 220):
                if not reveals(system, seen=seen, wanted=wanted):
                    ways = met(system, seen, wanted)
                    ahead = [marked for marked in ways if not all(marked[1])]
                    for hand in range(len(system.hands)):
                        ranks = {marked: (0, hand) for marked in ways if all(marked[1])}
                        self.assertIs(is_table(system, (ahead, ranks), seen=seen, wanted=wanted), False)

    def test_things_are_not_changed(self):
        ahead, ranks = good()
        for thing in ((ahead, ranks), (ahead, {BEHIND: None}), ([None], ranks)):
            is_table(both(), thing, **ASKED)
        self.assertEqual((ahead, ranks), good())


class ManyStandings(Checks):
    def test_never_too_many(self):
        system = widest()
        states = [(one, two, three, four) for one in range(8) for two in range(8) for three in range(8)
                  for four in range(8)]
        ahead = [(place, (False,)) for place in states]
        self.assertIs(is_table(system, (ahead, {}), seen=["none"], wanted=[]), True)
        self.assertIs(is_table(system, (ahead[:-1], {}), seen=["none"], wanted=[]), False)
        ranks = {(place, ()): (0, 3) for place in states if place[3] == 0}
        self.assertIs(is_table(system, ([], ranks), wanted=["d"]), True)
        self.assertIs(is_table(system, ([], ranks), wanted=["c"]), False)
        self.assertIs(is_table(system, ([], {first_marked(system, []): (0, 0)}), wanted=list("abcd")), True)
        self.assertIs(is_table(exactly_1001(), ([], {}), wanted=[]), False)

    def test_more_than_1000_marked_standings_in_a_table(self):
        system = System([ring_of("a", 8), ring_of("b", 8), ring_of("c", 8), Hand.ring(["d"] * 5)])
        ranks = {((one, two, three, 0), ()): (0, 3) for one in range(8) for two in range(8) for three in range(8)}
        others = {((one, two, three, four), ()): (5 - four, 3) for one in range(8) for two in range(8)
                  for three in range(8) for four in range(1, 5)}
        self.assertGreater(len(ranks) + len(others), 1000)
        self.assertIs(is_table(system, ([], {**others, **ranks}), wanted=["d"]), True)


if __name__ == "__main__":
    unittest.main()
