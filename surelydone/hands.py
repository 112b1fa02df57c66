"""Hands: small machines that go from state to state."""

from surelydone.errors import BadState, BadSteps, BadWords, TooMany
from surelydone.kinds import is_name, is_row, is_state
from surelydone.search import all_reached

MOST_STEPS = 24
MOST_LEAVING = 4
MOST_WORDS = 8
MOST_STATES = 8


class Hand:
    """A machine with a start and numbered steps from state to state, each with a word."""

    def __init__(self, start, steps):
        if not is_state(start):
            raise BadState(start)
        check_steps(steps)
        words = sorted({step[1] for step in steps})
        if len(words) > MOST_WORDS:
            raise TooMany(MOST_WORDS)
        states = reached_states(start, steps)
        self.start = start
        self.steps = tuple(steps)
        self.words = tuple(words)
        self.states = tuple(states)
        self.exits = exits_of(steps)

    @classmethod
    def ring(cls, words):
        """Return a hand that does the words one after the other, round and round."""
        if not is_row(words) or len(words) == 0:
            raise BadWords(words)
        for word in words:
            if not is_name(word):
                raise BadWords(word)
        if len(words) > MOST_STATES:
            raise TooMany(MOST_STATES)
        return cls(0, [(at, word, (at + 1) % len(words)) for at, word in enumerate(words)])

    def __eq__(self, other):
        return isinstance(other, Hand) and self.start == other.start and self.steps == other.steps


def is_step(value):
    """Tell whether a value is a step."""
    if not isinstance(value, tuple) or len(value) != 3:
        return False
    return is_state(value[0]) and is_name(value[1]) and is_state(value[2])


def check_steps(steps):
    """Raise BadSteps if a hand cannot have these steps."""
    if not is_row(steps) or not 1 <= len(steps) <= MOST_STEPS:
        raise BadSteps(-1)
    earlier = {}
    leaving = {}
    for index, step in enumerate(steps):
        if not is_step(step) or step in earlier:
            raise BadSteps(index)
        count = leaving.get(step[0], 0) + 1
        if count > MOST_LEAVING:
            raise BadSteps(index)
        earlier[step] = True
        leaving[step[0]] = count


def reached_states(start, steps):
    """Return the ascending list of the reached states, or raise TooMany."""
    return all_reached(start, lambda state: [step[2] for step in steps if step[0] == state], MOST_STATES)


def exits_of(steps):
    """Return the ascending numbers of the steps, by the state that they leave and their word."""
    exits = {}
    for number, step in enumerate(steps):
        place = (step[0], step[1])
        exits[place] = exits.get(place, ()) + (number,)
    return exits
