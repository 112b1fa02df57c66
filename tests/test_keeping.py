"""Points 3 and 5 over the whole program: nothing that was passed changes, and what was returned is the caller's own."""

import copy
import unittest

from surelydone.alike import alike, parting
from surelydone.deeds import Deeds
from surelydone.desk import Desk
from surelydone.errors import DoneError
from surelydone.families import always, done_sets, future, order, possible, revealed, together
from surelydone.hands import Hand
from surelydone.least import against, least_diligent, least_seen, least_wanted
from surelydone.reveals import is_lasso, is_table, lasso, reveals, table
from surelydone.runs import done_in, end_of, fair_run, is_fair, passed, words_of
from surelydone.systems import System, standings
from tests.helpers import door, guard
from tests.samples import both, drawn_questions, drawn_systems, lazy

ASK, REST = ("ask", (0, None)), ("rest", (None, 1))
ROPE = ((ASK,), (REST,))

# Each function and method that returns lists or dicts, as a call on a system.
RETURNING = {
    "moves": lambda system: system.moves(system.start),
    "able": lambda system: system.able(system.start),
    "standings": standings,
    "names": lambda system: Deeds(system.words).names(),
    "table": lambda system: table(system, seen=["ask"], wanted=["ask", "open"]),
    "done_sets": done_sets, "always": always, "possible": possible, "together": together, "order": order,
    "revealed": lambda system: revealed(system, ["rest"]),
    "future": lambda system: future(system, (ASK,)),
    "least_seen": lambda system: least_seen(system, among=["ask", "open", "none"], wanted=["ask"]),
    "least_wanted": lambda system: least_wanted(system, seen=["ask"], among=["open", "rest"]),
    "least_diligent": lambda system: least_diligent(system, seen=["ask"], wanted=["open"]),
    "against": lambda system: against(system, seen=["ask"], wanted=["open"]),
}

# Each function that takes rows or a thing, as a call on a system and on what is passed.
TAKING = {
    "Hand": (lambda system, steps: Hand(0, steps), [(0, "a", 1), (1, "b", 0)]),
    "ring": (lambda system, words: Hand.ring(words), ["b", "a", "b"]),
    "System": (lambda system, row: System(list(system.hands), row), [1, 0]),
    "with_diligent": (lambda system, row: system.with_diligent(row), [1]),
    "Deeds": (lambda system, words: Deeds(words), ["b", "a", "b"]),
    "or": (lambda system, words: (words | Deeds(["c"]), Deeds(["c"]) | words), ["b", "a", "b"]),
    "and": (lambda system, words: (words & Deeds(["a"]), Deeds(["a"]) & words), ["b", "a", "b"]),
    "minus": (lambda system, words: (words - Deeds(["a"]), Deeds(["a"]) - words), ["b", "a", "b"]),
    "within": (lambda system, words: Deeds(["a"]).within(words), ["b", "a", "b"]),
    "reveals": (lambda system, words: reveals(system, seen=words, wanted=words), ["rest", "open", "rest"]),
    "table": (lambda system, words: table(system, seen=words, wanted=words), ["rest", "open", "rest"]),
    "is_table": (lambda system, thing: is_table(system, thing, seen=["ask"], wanted=["open"]),
                 ([((0, 0), (False,))] * 2, {((1, 0), (True,)): (0, 0)})),
    "lasso": (lambda system, words: lasso(system, seen=words, wanted=["none"]), ["rest", "ask", "rest"]),
    "is_lasso": (lambda system, thing: is_lasso(system, thing, seen=["ask"], wanted=["open"]), list(ROPE)),
    "revealed": (revealed, ["rest", "ask", "rest"]),
    "least_seen": (lambda system, words: least_seen(system, among=words, wanted=words), ["rest", "ask", "rest"]),
    "least_wanted": (lambda system, words: least_wanted(system, seen=words, among=words), ["rest", "ask", "rest"]),
    "least_diligent": (lambda system, words: least_diligent(system, seen=words, wanted=["open"]), ["ask", "ask"]),
    "against": (lambda system, words: against(system, seen=words, wanted=["open"]), ["ask", "ask"]),
    "choose": (lambda system, row: Desk(system).choose(row), [1, 0]),
    "desk": (lambda system, words: Desk(system).reveals(seen=words, wanted=words), ["rest", "ask", "rest"]),
}


def spoil(value):
    """Change all lists and dicts in a value; a tuple is looked through."""
    if isinstance(value, tuple):
        return sum(spoil(item) for item in value)
    if isinstance(value, list):
        value[:1] = ["spoiled"]
        return 1
    if isinstance(value, dict):
        value.clear()
        value["spoiled"] = True
        return 1
    return 0


class Keeping(unittest.TestCase):
    def check_as_before(self, system, diligent):
        self.assertEqual(system, System([door(), guard()], diligent))
        self.assertEqual((system.words, system.start), (("ask", "open", "rest"), (0, 0)))
        for hand, again in zip(system.hands, (door(), guard())):
            self.assertEqual((hand.start, hand.steps, hand.words, hand.states),
                             (again.start, again.steps, again.words, again.states))

    def test_what_was_returned_belongs_to_the_caller(self):
        for system, diligent in [(both(), None), (lazy(), [1]), (both().with_diligent([]), [])]:
            for name, call in RETURNING.items():
                with self.subTest(name):
                    first = call(system)
                    kept = copy.deepcopy(first)
                    self.assertEqual(call(system), kept)
                    if first is not None:
                        self.assertGreater(spoil(first), 0)
                        self.assertNotEqual(first, kept)
                    self.assertEqual(call(system), kept)
                    self.check_as_before(system, diligent)

    def test_each_call_returns_new_lists(self):
        for name, call in RETURNING.items():
            with self.subTest(name):
                system = lazy()
                first, second = call(system), call(system)
                self.assertEqual(first, second)
                parts = zip(first, second) if isinstance(first, tuple) else [(first, second)]
                for one, other in parts:
                    self.assertIsNot(one, other)

    def test_what_was_passed_is_not_changed(self):
        for name, (call, value) in TAKING.items():
            for system, diligent in [(both(), None), (lazy(), [1])]:
                with self.subTest(name):
                    row, kept = copy.deepcopy(value), copy.deepcopy(value)
                    call(system, row)
                    self.assertEqual(row, kept)
                    self.assertIs(type(row), type(kept))
                    self.check_as_before(system, diligent)

    def test_deeds_that_were_passed_are_not_changed(self):
        for name, (call, value) in TAKING.items():
            if name in ("Deeds", "or", "and", "minus", "within", "reveals", "table", "lasso", "revealed", "least_seen",
                        "least_wanted", "least_diligent", "against", "desk"):
                with self.subTest(name):
                    deeds = Deeds(value)
                    call(lazy(), deeds)
                    self.assertEqual(deeds, Deeds(value))

    def test_later_changes_to_what_was_passed_have_no_effect(self):
        for name, (call, value) in TAKING.items():
            with self.subTest(name):
                row = copy.deepcopy(value)
                found, again = call(lazy(), row), call(lazy(), copy.deepcopy(value))
                spoil(row)
                self.assertEqual(found, again)

    def test_runs_are_not_changed_and_systems_are_not_either(self):
        run = (ASK, REST)
        for system, diligent in [(both(), None), (lazy(), [1])]:
            for call in (end_of, words_of, done_in, fair_run, future, lambda one, moves: list(passed(one, moves))):
                self.assertEqual(call(system, run), call(system, tuple(list(run))))
                self.check_as_before(system, diligent)
            is_fair(system, run, (REST,))
            alike(system, both())
            parting(lazy(), system)
            Desk(system).trying(lambda desk: desk.choose([]))
            self.check_as_before(system, diligent)

    def test_deeds_that_were_returned_are_new(self):
        system = both()
        first = done_in(system, (ASK, REST))
        first |= ["open"]
        first -= ["ask"]
        self.assertEqual(done_in(system, (ASK, REST)), Deeds(["ask", "rest"]))

    def test_equal_calls_give_equal_values(self):
        calls = [done_sets, always, possible, together, order, lambda system: future(system, ())]
        for at, system in enumerate(drawn_systems(40, 130)):
            again = System([Hand(hand.start, list(hand.steps)) for hand in system.hands], list(system.diligent)[::-1])
            for call in calls:
                self.assertEqual(call(system), call(again))
                self.assertEqual(call(system), call(system))
            self.assertIs(alike(system, again), True)
            for seen, wanted in drawn_questions(system, 2, 131 + at):
                for call in (least_diligent, against):
                    self.assertEqual(call(system, seen=seen, wanted=wanted), call(again, seen=seen, wanted=wanted))
                self.assertEqual(least_seen(system, among=seen, wanted=wanted),
                                 least_seen(again, among=seen[::-1], wanted=Deeds(wanted)))
                self.assertEqual(least_wanted(system, seen=seen, among=wanted),
                                 least_wanted(again, seen=Deeds(seen), among=wanted[::-1]))

    def test_a_call_that_raises_changes_nothing(self):
        system, row, deeds, run = lazy(), ["ask", "A"], Deeds(["ask"]), (ASK, ASK)
        for call in (
            lambda: revealed(system, row), lambda: future(system, run), lambda: future(system, row),
            lambda: least_seen(system, among=deeds, wanted=row), lambda: least_seen(system, among=row, wanted=deeds),
            lambda: least_wanted(system, seen=deeds, among=row), lambda: least_wanted(system, seen=row, among=deeds),
            lambda: least_wanted(system, among=list("abcdefg")), lambda: least_diligent(system, seen=deeds, wanted=row),
            lambda: against(system, seen=row, wanted=deeds), lambda: Desk(system).choose(row),
            lambda: Desk(system).reveals(seen=deeds, wanted=row), lambda: Desk(system)[2], lambda: Desk(system).undo(),
        ):
            with self.assertRaises(DoneError):
                call()
            self.check_as_before(system, [1])
            self.assertEqual((row, deeds, run), (["ask", "A"], Deeds(["ask"]), (ASK, ASK)))


if __name__ == "__main__":
    unittest.main()
