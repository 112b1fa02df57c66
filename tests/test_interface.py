"""The interface: its names, the arguments by position and by name, and the kinds of what is returned."""

import importlib
import inspect
import unittest

from surelydone import errors
from surelydone.alike import alike, parting
from surelydone.deeds import Deeds
from surelydone.desk import Desk
from surelydone.families import always, done_sets, future, order, possible, revealed, together
from surelydone.hands import Hand
from surelydone.least import against, least_diligent, least_seen, least_wanted
from surelydone.reveals import is_lasso, is_table, lasso, reveals, table
from surelydone.runs import done_in, end_of, fair_run, is_fair, passed, words_of
from surelydone.systems import System, standings
from tests.samples import both, either, lazy

# Each function as the document writes it, by its module.
FUNCTIONS = {
    "systems": ["standings(system)"],
    "runs": ["end_of(system, run)", "words_of(system, run)", "done_in(system, run)", "passed(system, run)",
             "is_fair(system, stem, loop)", "fair_run(system, run)"],
    "reveals": ["reveals(system, *, seen=(), wanted)", "table(system, *, seen=(), wanted)",
                "is_table(system, thing, *, seen=(), wanted)", "lasso(system, *, seen=(), wanted)",
                "is_lasso(system, thing, *, seen=(), wanted)"],
    "families": ["done_sets(system)", "always(system)", "possible(system)", "revealed(system, seen)",
                 "future(system, run)", "together(system)", "order(system)"],
    "least": ["least_seen(system, *, among, wanted)", "least_wanted(system, *, seen=(), among)",
              "least_diligent(system, *, seen=(), wanted)", "against(system, *, seen=(), wanted)"],
    "alike": ["alike(one, other)", "parting(one, other)"],
}

# Each class with its arguments, and its methods and properties.
CLASSES = {
    "hands": ("Hand(start, steps)", ["ring(words)"], "__eq__"),
    "systems": ("System(hands, diligent=None)",
                ["moves(states)", "behind(states, move)", "able(states)", "with_diligent(row)", "started_at(states)"],
                "__eq__ __add__ __radd__"),
    "deeds": ("Deeds(words=())", ["names()", "within(other)"],
              "__or__ __ror__ __ior__ __and__ __rand__ __iand__ __sub__ __rsub__ __isub__ __eq__ __contains__ __len__ "
              "__bool__"),
    "desk": ("Desk(system)", ["reveals(*, seen=(), wanted)", "choose(row)", "undo()", "trying(deed)"],
             "__getitem__ __setitem__ system"),
}

ERRORS = {
    "value": "BadState BadDiligent BadWords BadStates BadMove", "at": "BadSteps BadHands BadRun", "limit": "TooMany",
    "": "NothingDone DoneError",
}


def module_of(name):
    return importlib.import_module(f"surelydone.{name}")


class Names(unittest.TestCase):
    def test_functions(self):
        for module, told in FUNCTIONS.items():
            for text in told:
                name = text.partition("(")[0]
                function = vars(module_of(module))[name]
                self.assertTrue(inspect.isfunction(function), name)
                self.assertEqual(function.__module__, f"surelydone.{module}")
                self.assertEqual(name + str(inspect.signature(function)), text)

    def test_classes_and_methods(self):
        for module, (text, methods, others) in CLASSES.items():
            name = text.partition("(")[0]
            kind = vars(module_of(module))[name]
            self.assertTrue(inspect.isclass(kind), name)
            self.assertEqual(kind.__module__, f"surelydone.{module}")
            self.assertEqual(name + str(inspect.signature(kind)), text)
            for method in methods:
                called = method.partition("(")[0]
                self.assertIn(called, vars(kind))
                of_object = method.replace("(", "(self, ", 1).replace("self, )", "self)")
                expected = method if called == "ring" else of_object
                self.assertEqual(called + str(inspect.signature(getattr(kind, called))), expected)
            for other in others.split():
                self.assertIn(other, vars(kind))
        self.assertIsInstance(vars(Hand)["ring"], classmethod)
        self.assertIsInstance(vars(Desk)["system"], property)

    def test_errors(self):
        for attribute, names in ERRORS.items():
            for name in names.split():
                kind = vars(errors)[name]
                self.assertEqual(kind.__module__, "surelydone.errors")
                if attribute:
                    self.assertEqual(vars(kind(**{attribute: 5})), {attribute: 5})
                    self.assertEqual(vars(kind(5)), {attribute: 5})
                else:
                    self.assertEqual(vars(kind()), {})


class Calls(unittest.TestCase):
    """Each call by position and by name gives the same, of the kind that the interface lists."""

    def check_call(self, kind, call, **named):
        found = call(**named)
        self.assertIs(type(found), kind)
        first = [name for name in named if name not in ("seen", "wanted", "among") or call == revealed]
        rest = {name: named[name] for name in named if name not in first}
        again = call(*[named[name] for name in first], **rest)
        self.assertIs(type(again), kind)
        if not inspect.isgenerator(found):
            self.assertEqual(again, found)
        turned = call(**{name: named[name] for name in list(named)[::-1]})
        self.assertIs(type(turned), kind)
        return found

    def check_items(self, found, kind, inner):
        """A list of tuples of a kind of items, or with no such kind a list of these items."""
        self.assertIs(type(found), list)
        self.assertNotEqual(found, [])
        for item in found:
            self.assertIs(type(item), kind)
            if inner:
                self.assertEqual({type(part) for part in item} - {inner}, set())

    def test_hands_and_systems(self):
        hand = self.check_call(Hand, Hand, start=0, steps=[(0, "b", 1), (1, "a", 0)])
        self.assertEqual((hand.start, hand.steps), (0, ((0, "b", 1), (1, "a", 0))))
        self.assertEqual((hand.words, hand.states), (("a", "b"), (0, 1)))
        self.check_call(Hand, Hand.ring, words=["a"])
        system = self.check_call(System, System, hands=[hand, hand], diligent=[1])
        self.assertEqual((system.hands, system.diligent), ((hand, hand), (1,)))
        self.assertEqual((system.words, system.start), (("a", "b"), (0, 0)))
        self.check_items(self.check_call(list, system.moves, states=(0, 0)), tuple, None)
        self.check_call(tuple, system.behind, states=(0, 0), move=("b", (0, 0)))
        self.check_items(self.check_call(list, system.able, states=(0, 0)), int, None)
        self.check_call(System, system.with_diligent, row=[0])
        self.check_call(System, system.started_at, states=(1, 1))
        self.check_items(self.check_call(list, standings, system=system), tuple, int)

    def test_deeds(self):
        deeds = self.check_call(Deeds, Deeds, words=["a"])
        self.check_items(deeds.names(), str, None)
        self.check_call(bool, deeds.within, other=["a"])

    def test_runs(self):
        run = (("ask", (0, None)),)
        self.check_call(tuple, end_of, system=both(), run=run)
        self.check_call(tuple, words_of, system=both(), run=run)
        self.check_call(Deeds, done_in, system=both(), run=run)
        found = passed(system=both(), run=run)
        self.assertTrue(inspect.isgenerator(found))
        self.check_items(list(found), tuple, int)
        self.assertEqual(list(passed(both(), run)), [(0, 0), (1, 0)])
        self.check_call(bool, is_fair, system=both(), stem=run, loop=())
        stem, loop = self.check_call(tuple, fair_run, system=both(), run=run)
        self.assertEqual((type(stem), type(loop)), (tuple, tuple))

    def test_questions(self):
        asked = {"seen": ["ask"], "wanted": ["open"]}
        self.check_call(bool, reveals, system=both(), **asked)
        ahead, ranks = self.check_call(tuple, table, system=both(), **asked)
        self.assertEqual((type(ahead), type(ranks)), (list, dict))
        self.check_call(type(None), table, system=lazy(), **asked)
        self.check_call(bool, is_table, system=both(), thing=(ahead, ranks), **asked)
        found = self.check_call(tuple, lasso, system=lazy(), **asked)
        self.assertEqual([type(part) for part in found], [tuple, tuple])
        self.check_call(type(None), lasso, system=both(), **asked)
        self.check_call(bool, is_lasso, system=lazy(), thing=found, **asked)

    def test_families(self):
        self.check_items(self.check_call(list, done_sets, system=lazy()), tuple, str)
        self.check_items(self.check_call(list, always, system=both()), str, None)
        self.check_items(self.check_call(list, possible, system=both()), str, None)
        self.check_items(self.check_call(list, revealed, system=both(), seen=["ask"]), str, None)
        rows = self.check_call(tuple, future, system=either(), run=(("left", (0, None)),))
        self.assertEqual([type(row) for row in rows], [list, list, list])
        self.assertEqual({type(word) for row in rows for word in row}, {str})
        self.check_items(self.check_call(list, together, system=both()), tuple, str)
        self.check_items(self.check_call(list, order, system=both()), tuple, int)

    def test_least(self):
        self.check_items(self.check_call(list, least_seen, system=lazy(), among=["ask"], wanted=["ask"]), tuple, str)
        self.check_items(self.check_call(list, least_wanted, system=lazy(), seen=["ask"], among=["ask"]), tuple, str)
        self.check_items(self.check_call(list, least_wanted, system=both(), among=["ask"]), tuple, str)
        asked = {"seen": ["ask"], "wanted": ["open"]}
        self.check_items(self.check_call(list, least_diligent, system=lazy(), **asked), tuple, int)
        found = self.check_call(list, against, system=lazy(), **asked)
        self.check_items(found, tuple, tuple)
        self.assertEqual([len(item) for item in found], [2])
        self.assertEqual({type(hand) for hand in found[0][0]}, {int})

    def test_alike(self):
        self.check_call(bool, alike, one=both(), other=lazy())
        self.check_items([self.check_call(tuple, parting, one=both(), other=lazy())], tuple, tuple)
        self.check_call(type(None), parting, one=both(), other=both())

    def test_desk(self):
        desk = Desk(system=lazy())
        self.assertIs(type(desk.system), System)
        self.assertEqual([type(desk[hand]) for hand in (0, 1)], [bool, bool])
        self.check_call(bool, desk.reveals, seen=["ask"], wanted=["open"])
        self.check_call(bool, desk.reveals, wanted=["open"])
        self.check_call(type(None), desk.choose, row=[0])
        self.check_call(int, desk.trying, deed=lambda one: 7)
        self.assertIs(desk.undo(), None)


if __name__ == "__main__":
    unittest.main()
