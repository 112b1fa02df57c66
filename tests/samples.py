"""Systems that several test files look at."""

import itertools

from surelydone.hands import Hand
from surelydone.systems import System
from tests.helpers import door, guard


def both():
    return System([door(), guard()])


def lazy():
    return System([door(), guard()], [1])


def stuck():
    """Two hands share the word open, and the second one can never do it."""
    return System([door(), Hand(0, [(0, "rest", 0), (1, "open", 0)])])


def crowd():
    """Three hands with several steps for the same word, in mixed order, and a state that runs do not meet."""
    one = Hand(0, [(0, "b", 1), (0, "a", 0), (1, "c", 2), (0, "b", 0), (2, "b", 0), (0, "b", 2)])
    other = Hand(5, [(5, "b", 5), (5, "b", 6), (6, "d", 5), (6, "b", 6), (5, "a", 6), (5, "a", 5)])
    third = Hand(1, [(1, "e", 2), (2, "d", 1), (7, "f", 1), (1, "e", 1)])
    return System([one, other, third], [2, 0])


def shapes():
    """Some small systems of every kind."""
    hands = [
        door(), guard(), Hand.ring(["a", "a", "open"]), Hand(3, [(3, "ask", 4), (3, "rest", 3), (3, "ask", 3)]),
        Hand(0, [(0, "open", 1), (2, "rest", 0)]),
        Hand(1, [(1, "rest", 0), (0, "rest", 1), (0, "rest", 0), (0, "a", 1)]),
    ]
    for many in (1, 2, 3):
        for chosen in itertools.product(hands, repeat=many):
            yield System(list(chosen), [0])


def all_standings(system):
    """All standings, also those that runs do not meet."""
    return list(itertools.product(*[hand.states for hand in system.hands]))


def ring_of(word, many):
    """A hand with so many reached states and one word."""
    return Hand.ring([word] * many)


def with_last(hand, words):
    """The hand with one more state, to which each of these words leads from the start and nothing from there."""
    return Hand(0, list(hand.steps) + [(0, word, 90) for word in words])


def exactly_1000():
    """Rings of 980 standings, and a word y that leads two of them to where they stay: 20 more."""
    rings = [ring_of("a", 7), ring_of("b", 7), ring_of("c", 5), ring_of("d", 4)]
    return System([with_last(rings[0], "y"), with_last(rings[1], "y"), rings[2], rings[3]])


def exactly_1001():
    """The same with a word z that leads all four hands to where they stay: one more."""
    rings = [ring_of("a", 7), ring_of("b", 7), ring_of("c", 5), ring_of("d", 4)]
    return System([with_last(ring, words) for ring, words in zip(rings, ["yz", "yz", "z", "z"])])


def widest(diligent=None):
    """Four hands of eight states: 4096 standings."""
    return System([ring_of(word, 8) for word in "abcd"], diligent)


def pairs_1000(diligent=None):
    """Rings of 7 and 4 states have 8 and 5 pairs each, so there are 8 * 5 * 5 * 5 pairs."""
    return System([ring_of("a", 7), ring_of("b", 4), ring_of("c", 4), ring_of("d", 4)], diligent)


def pairs_1001(diligent=None):
    """A ring has a pair for each step until all its words are done, and for each state then: 7 * 11 * 13 pairs."""
    return System([Hand.ring(list(words)) for words in ("abcc", "deffffff", "ghijkkkk")], diligent)


def never(diligent=None):
    """No run does anything: the two hands never agree on a word."""
    return System([Hand(0, [(0, "a", 0), (1, "b", 0)]), Hand(0, [(0, "b", 0), (1, "a", 0)])], diligent)


def either(diligent=None):
    """One of two words is done, once, beside a word that may be done at any time."""
    return System([Hand(0, [(0, "left", 1), (0, "right", 2)]), Hand.ring(["wave"])], diligent)


class Draw:
    """Numbers that look thrown and are the same each time, on every Python."""

    def __init__(self, seed):
        self.state = seed

    def below(self, many):
        self.state = (self.state * 6364136223846793005 + 1442695040888963407) % 2 ** 64
        return (self.state >> 33) % many

    def of(self, row):
        return row[self.below(len(row))]

    def some(self, row, most):
        return [self.of(row) for _ in range(self.below(most + 1))] if row else []


def drawn_hand(draw, words):
    """A hand of a few states with a few steps."""
    many = 1 + draw.below(3)
    steps = []
    for _ in range(1 + draw.below(5)):
        step = (draw.below(many), draw.of(words), draw.below(many))
        if step not in steps and sum(other[0] == step[0] for other in steps) < 4:
            steps.append(step)
    return Hand(draw.below(many), steps)


def drawn_systems(many, seed):
    """So many small systems, of one to four hands, none, some or all diligent."""
    draw = Draw(seed)
    for _ in range(many):
        hands = [drawn_hand(draw, "abcde") for _ in range(1 + draw.below(4))]
        yield System(hands, [at for at in range(len(hands)) if draw.below(3) > 0])


def drawn_questions(system, many, seed):
    """So many questions: rows of seen words and of wanted words, and now and then a word that no hand has."""
    draw = Draw(seed)
    words = list(system.words) * 3 + ["none"]
    for _ in range(many):
        yield draw.some(words, 3), draw.some(words, 2)


def drawn_run(system, draw, many):
    """A run of at most so many moves; it ends where there is no move."""
    states, run = system.start, []
    for _ in range(many):
        moves = system.moves(states)
        if not moves:
            break
        run.append(draw.of(moves))
        states = system.behind(states, run[-1])
    return tuple(run)


def short_runs(system, most):
    """All runs of at most so many moves from the start of a small system."""
    found = [((), system.start)]
    for run, states in found:
        if len(run) < most:
            found.extend((run + (move,), system.behind(states, move)) for move in system.moves(states))
    return [run for run, _ in found]
