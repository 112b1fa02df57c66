"""Point 40: the worked examples, word for word, and the example of point 11."""

import re
import unittest

from surelydone.hands import Hand
from surelydone.systems import System, standings

SESSIONS = '''
>>> from surelydone.hands import Hand
>>> Hand.ring(["ask", "open"]).steps
((0, 'ask', 1), (1, 'open', 0))

>>> from surelydone.hands import Hand
>>> Hand(0, [(0, "ask", 1), (1, "open", 0), (0, "ask", 1)])
raises BadSteps(2)

>>> from surelydone.systems import System
>>> System([])
raises BadHands(-1)

>>> from surelydone.hands import Hand
>>> from surelydone.systems import System
>>> door = Hand(0, [(0, "ask", 1), (1, "open", 0)])
>>> guard = Hand(0, [(0, "open", 0), (0, "rest", 0)])
>>> both = System([door, guard])
>>> both.moves((0, 0))
[('ask', (0, None)), ('rest', (None, 1))]

>>> from surelydone.hands import Hand
>>> from surelydone.systems import System
>>> door = Hand(0, [(0, "ask", 1), (1, "open", 0)])
>>> guard = Hand(0, [(0, "open", 0), (0, "rest", 0)])
>>> both = System([door, guard])
>>> both.behind((1, 0), ("open", (1, 0)))
(0, 0)

>>> from surelydone.hands import Hand
>>> from surelydone.systems import System
>>> door = Hand(0, [(0, "ask", 1), (1, "open", 0)])
>>> guard = Hand(0, [(0, "open", 0), (0, "rest", 0)])
>>> both = System([door, guard])
>>> both.behind((0, 0), ("open", (1, 0)))
raises BadMove(('open', (1, 0)))

>>> from surelydone.hands import Hand
>>> from surelydone.systems import System
>>> door = Hand(0, [(0, "ask", 1), (1, "open", 0)])
>>> guard = Hand(0, [(0, "open", 0), (0, "rest", 0)])
>>> from surelydone.systems import standings
>>> both = System([door, guard])
>>> standings(both)
[(0, 0), (1, 0)]
'''


def told_by(session):
    """Run a session, and tell in the words of the document what its last line gives."""
    *before, last = [line[4:] for line in session.splitlines() if line.startswith(">>> ")]
    room = {}
    exec("\n".join(before), room)
    try:
        return repr(eval(last, room))
    except ValueError as error:
        shown = [repr(value) for value in vars(error).values()]
        return "raises " + type(error).__name__ + (f"({', '.join(shown)})" if shown else "")


class Examples(unittest.TestCase):
    def test_sessions(self):
        sessions = re.split(r"\n\n", SESSIONS.strip())
        self.assertEqual(len(sessions), 7)
        for session in sessions:
            expected = session.splitlines()[-1]
            with self.subTest(session):
                self.assertEqual(told_by(session), expected)

    def test_door_and_guard(self):
        door = Hand(0, [(0, "ask", 1), (1, "open", 0)])
        guard = Hand(0, [(0, "open", 0), (0, "rest", 0)])
        both = System([door, guard])
        lazy = System([door, guard], [1])
        for system in (both, lazy):
            self.assertEqual(system.words, ("ask", "open", "rest"))
            self.assertEqual(standings(system), [(0, 0), (1, 0)])
            self.assertEqual(system.moves((0, 0)), [("ask", (0, None)), ("rest", (None, 1))])
            self.assertEqual(system.moves((1, 0)), [("open", (1, 0)), ("rest", (None, 1))])
            self.assertEqual(system.able((0, 0)), [0, 1])
            self.assertEqual(system.able((1, 0)), [0, 1])
        self.assertEqual(both.diligent, (0, 1))
        self.assertEqual(lazy.diligent, (1,))


if __name__ == "__main__":
    unittest.main()
