"""Point 40: the worked examples, word for word, and the examples of points 11 and 24."""

import re
import unittest

from surelydone.hands import Hand
from surelydone.reveals import is_lasso, is_table, lasso, reveals, table
from surelydone.systems import System, standings

SESSIONS = '''
>>> from surelydone.hands import Hand
>>> Hand.ring(["ask", "open"]).steps
((0, 'ask', 1), (1, 'open', 0))

>>> from surelydone.hands import Hand
>>> Hand(0, [(0, "ask", 1), (1, "open", 0), (0, "ask", 1)])
raises BadSteps(2)

>>> from surelydone.systems import System
>>> System([])
raises BadHands(-1)

>>> from surelydone.hands import Hand
>>> from surelydone.systems import System
>>> door = Hand(0, [(0, "ask", 1), (1, "open", 0)])
>>> guard = Hand(0, [(0, "open", 0), (0, "rest", 0)])
>>> both = System([door, guard])
>>> both.moves((0, 0))
[('ask', (0, None)), ('rest', (None, 1))]

>>> from surelydone.hands import Hand
>>> from surelydone.systems import System
>>> door = Hand(0, [(0, "ask", 1), (1, "open", 0)])
>>> guard = Hand(0, [(0, "open", 0), (0, "rest", 0)])
>>> both = System([door, guard])
>>> both.behind((1, 0), ("open", (1, 0)))
(0, 0)

>>> from surelydone.hands import Hand
>>> from surelydone.systems import System
>>> door = Hand(0, [(0, "ask", 1), (1, "open", 0)])
>>> guard = Hand(0, [(0, "open", 0), (0, "rest", 0)])
>>> both = System([door, guard])
>>> both.behind((0, 0), ("open", (1, 0)))
raises BadMove(('open', (1, 0)))

>>> from surelydone.hands import Hand
>>> from surelydone.systems import System
>>> door = Hand(0, [(0, "ask", 1), (1, "open", 0)])
>>> guard = Hand(0, [(0, "open", 0), (0, "rest", 0)])
>>> from surelydone.systems import standings
>>> both = System([door, guard])
>>> standings(both)
[(0, 0), (1, 0)]

>>> from surelydone.deeds import Deeds
>>> (["open", "ask"] - Deeds(["ask", "rest"])).names()
['open']

>>> from surelydone.hands import Hand
>>> from surelydone.systems import System
>>> door = Hand(0, [(0, "ask", 1), (1, "open", 0)])
>>> guard = Hand(0, [(0, "open", 0), (0, "rest", 0)])
>>> from surelydone.runs import words_of
>>> both = System([door, guard])
>>> words_of(both, (("ask", (0, None)), ("open", (1, 0))))
('ask', 'open')

>>> from surelydone.hands import Hand
>>> from surelydone.systems import System
>>> door = Hand(0, [(0, "ask", 1), (1, "open", 0)])
>>> guard = Hand(0, [(0, "open", 0), (0, "rest", 0)])
>>> from surelydone.runs import end_of
>>> both = System([door, guard])
>>> end_of(both, (("ask", (0, None)), ("ask", (0, None))))
raises BadRun(1)

>>> from surelydone.hands import Hand
>>> from surelydone.systems import System
>>> door = Hand(0, [(0, "ask", 1), (1, "open", 0)])
>>> guard = Hand(0, [(0, "open", 0), (0, "rest", 0)])
>>> from surelydone.runs import is_fair
>>> both = System([door, guard])
>>> is_fair(both, (("ask", (0, None)),), (("rest", (None, 1)),))
False

>>> from surelydone.hands import Hand
>>> from surelydone.systems import System
>>> door = Hand(0, [(0, "ask", 1), (1, "open", 0)])
>>> guard = Hand(0, [(0, "open", 0), (0, "rest", 0)])
>>> from surelydone.runs import is_fair
>>> lazy = System([door, guard], [1])
>>> is_fair(lazy, (("ask", (0, None)),), (("rest", (None, 1)),))
True

>>> from surelydone.hands import Hand
>>> from surelydone.systems import System
>>> door = Hand(0, [(0, "ask", 1), (1, "open", 0)])
>>> guard = Hand(0, [(0, "open", 0), (0, "rest", 0)])
>>> from surelydone.reveals import reveals
>>> both = System([door, guard])
>>> reveals(both, seen=["ask"], wanted=["open"])
True

>>> from surelydone.hands import Hand
>>> from surelydone.systems import System
>>> door = Hand(0, [(0, "ask", 1), (1, "open", 0)])
>>> guard = Hand(0, [(0, "open", 0), (0, "rest", 0)])
>>> from surelydone.reveals import reveals
>>> lazy = System([door, guard], [1])
>>> reveals(lazy, seen=["ask"], wanted=["open"])
False

>>> from surelydone.hands import Hand
>>> from surelydone.systems import System
>>> door = Hand(0, [(0, "ask", 1), (1, "open", 0)])
>>> guard = Hand(0, [(0, "open", 0), (0, "rest", 0)])
>>> from surelydone.reveals import is_table
>>> both = System([door, guard])
>>> thing = ([((0, 0), (False,))], {((1, 0), (True,)): (0, 0)})
>>> is_table(both, thing, seen=["ask"], wanted=["open"])
True

>>> from surelydone.hands import Hand
>>> from surelydone.systems import System
>>> door = Hand(0, [(0, "ask", 1), (1, "open", 0)])
>>> guard = Hand(0, [(0, "open", 0), (0, "rest", 0)])
>>> from surelydone.reveals import is_lasso
>>> lazy = System([door, guard], [1])
>>> thing = ((("ask", (0, None)),), (("rest", (None, 1)),))
>>> is_lasso(lazy, thing, seen=["ask"], wanted=["open"])
True

>>> from surelydone.hands import Hand
>>> from surelydone.systems import System
>>> door = Hand(0, [(0, "ask", 1), (1, "open", 0)])
>>> guard = Hand(0, [(0, "open", 0), (0, "rest", 0)])
>>> from surelydone.families import done_sets
>>> both = System([door, guard])
>>> done_sets(both)
[('ask', 'open'), ('ask', 'open', 'rest')]

>>> from surelydone.hands import Hand
>>> from surelydone.systems import System
>>> door = Hand(0, [(0, "ask", 1), (1, "open", 0)])
>>> guard = Hand(0, [(0, "open", 0), (0, "rest", 0)])
>>> from surelydone.families import done_sets
>>> lazy = System([door, guard], [1])
>>> done_sets(lazy)
[('rest',), ('ask', 'open'), ('ask', 'rest'), ('ask', 'open', 'rest')]

>>> from surelydone.hands import Hand
>>> from surelydone.systems import System
>>> door = Hand(0, [(0, "ask", 1), (1, "open", 0)])
>>> guard = Hand(0, [(0, "open", 0), (0, "rest", 0)])
>>> from surelydone.families import future
>>> lazy = System([door, guard], [1])
>>> future(lazy, (("ask", (0, None)),))
(['ask'], ['open', 'rest'], [])

>>> from surelydone.hands import Hand
>>> from surelydone.systems import System
>>> door = Hand(0, [(0, "ask", 1), (1, "open", 0)])
>>> guard = Hand(0, [(0, "open", 0), (0, "rest", 0)])
>>> from surelydone.families import order, together
>>> both = System([door, guard])
>>> [together(both), order(both)]
[[('ask', 'open'), ('rest',)], [(1, 0)]]

>>> from surelydone.hands import Hand
>>> from surelydone.systems import System
>>> door = Hand(0, [(0, "ask", 1), (1, "open", 0)])
>>> guard = Hand(0, [(0, "open", 0), (0, "rest", 0)])
>>> from surelydone.least import least_seen
>>> lazy = System([door, guard], [1])
>>> least_seen(lazy, among=["ask", "open", "rest"], wanted=["ask"])
[('ask',), ('open',)]

>>> from surelydone.hands import Hand
>>> from surelydone.systems import System
>>> door = Hand(0, [(0, "ask", 1), (1, "open", 0)])
>>> guard = Hand(0, [(0, "open", 0), (0, "rest", 0)])
>>> from surelydone.least import least_wanted
>>> lazy = System([door, guard], [1])
>>> least_wanted(lazy, seen=["ask"], among=["open", "rest"])
[('open', 'rest')]

>>> from surelydone.hands import Hand
>>> from surelydone.systems import System
>>> door = Hand(0, [(0, "ask", 1), (1, "open", 0)])
>>> guard = Hand(0, [(0, "open", 0), (0, "rest", 0)])
>>> from surelydone.least import least_diligent
>>> lazy = System([door, guard], [1])
>>> least_diligent(lazy, seen=["ask"], wanted=["open"])
[(0,)]

>>> from surelydone.hands import Hand
>>> from surelydone.systems import System
>>> door = Hand(0, [(0, "ask", 1), (1, "open", 0)])
>>> guard = Hand(0, [(0, "open", 0), (0, "rest", 0)])
>>> from surelydone.alike import parting
>>> both = System([door, guard])
>>> lazy = System([door, guard], [1])
>>> parting(both, lazy)
(('rest',), ('ask', 'open'))

>>> from surelydone.hands import Hand
>>> from surelydone.systems import System
>>> door = Hand(0, [(0, "ask", 1), (1, "open", 0)])
>>> guard = Hand(0, [(0, "open", 0), (0, "rest", 0)])
>>> from surelydone.desk import Desk
>>> both = System([door, guard])
>>> desk = Desk(both)
>>> desk.choose([1])
>>> desk.reveals(seen=["ask"], wanted=["open"])
False

>>> from surelydone.hands import Hand
>>> from surelydone.systems import System
>>> door = Hand(0, [(0, "ask", 1), (1, "open", 0)])
>>> guard = Hand(0, [(0, "open", 0), (0, "rest", 0)])
>>> from surelydone.desk import Desk
>>> both = System([door, guard])
>>> Desk(both).undo()
raises NothingDone
'''


def told_by(session):
    """Run a session, and tell in the words of the document what its last line gives."""
    *before, last = [line[4:] for line in session.splitlines() if line.startswith(">>> ")]
    room = {}
    exec("\n".join(before), room)
    try:
        return repr(eval(last, room))
    except ValueError as error:
        shown = [repr(value) for value in vars(error).values()]
        return "raises " + type(error).__name__ + (f"({', '.join(shown)})" if shown else "")


class Examples(unittest.TestCase):
    def test_sessions(self):
        sessions = re.split(r"\n\n", SESSIONS.strip())
        self.assertEqual(len(sessions), 26)
        for session in sessions:
            expected = session.splitlines()[-1]
            with self.subTest(session):
                self.assertEqual(told_by(session), expected)

    def test_door_and_guard(self):
        door = Hand(0, [(0, "ask", 1), (1, "open", 0)])
        guard = Hand(0, [(0, "open", 0), (0, "rest", 0)])
        both = System([door, guard])
        lazy = System([door, guard], [1])
        for system in (both, lazy):
            self.assertEqual(system.words, ("ask", "open", "rest"))
            self.assertEqual(standings(system), [(0, 0), (1, 0)])
            self.assertEqual(system.moves((0, 0)), [("ask", (0, None)), ("rest", (None, 1))])
            self.assertEqual(system.moves((1, 0)), [("open", (1, 0)), ("rest", (None, 1))])
            self.assertEqual(system.able((0, 0)), [0, 1])
            self.assertEqual(system.able((1, 0)), [0, 1])
        self.assertEqual(both.diligent, (0, 1))
        self.assertEqual(lazy.diligent, (1,))

    def test_what_ask_reveals(self):
        door = Hand(0, [(0, "ask", 1), (1, "open", 0)])
        guard = Hand(0, [(0, "open", 0), (0, "rest", 0)])
        both = System([door, guard])
        lazy = System([door, guard], [1])
        self.assertIs(reveals(both, seen=["ask"], wanted=["open"]), True)
        ahead, ranks = table(both, seen=["ask"], wanted=["open"])
        self.assertEqual(ahead, [((0, 0), (False,))])
        self.assertEqual({key: hand for key, (rank, hand) in ranks.items()}, {((1, 0), (True,)): 0})
        thing = ([((0, 0), (False,))], {((1, 0), (True,)): (0, 0)})
        self.assertIs(is_table(both, thing, seen=["ask"], wanted=["open"]), True)
        self.assertIs(reveals(lazy, seen=["ask"], wanted=["open"]), False)
        thing = ((("ask", (0, None)),), (("rest", (None, 1)),))
        self.assertIs(is_lasso(lazy, thing, seen=["ask"], wanted=["open"]), True)
        self.assertIs(is_lasso(lazy, lasso(lazy, seen=["ask"], wanted=["open"]), seen=["ask"], wanted=["open"]), True)


if __name__ == "__main__":
    unittest.main()
