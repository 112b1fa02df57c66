"""Systems: several hands side by side, of which some are diligent."""

from surelydone.errors import BadDiligent, BadHands, BadMove, BadStates, TooMany
from surelydone.hands import Hand
from surelydone.kinds import is_name, is_row, is_whole
from surelydone.search import all_reached

MOST_HANDS = 4
MOST_WORDS = 12
MOST_STANDINGS = 1000


class System:
    """A row of hands that do the words that they share together; some of them are diligent."""

    def __init__(self, hands, diligent=None):
        check_hands(hands)
        chosen = chosen_hands(diligent, len(hands))
        words = sorted({word for hand in hands for word in hand.words})
        if len(words) > MOST_WORDS:
            raise TooMany(MOST_WORDS)
        self.hands = tuple(hands)
        self.diligent = chosen
        self.words = tuple(words)
        self.start = tuple([hand.start for hand in hands])

    def moves(self, states):
        """Return the list of all moves at a standing."""
        check_states(self, states)
        return [(word, numbers) for word in self.words for numbers in numbers_of(self, states, word)]

    def behind(self, states, move):
        """Return the standing to which a move leads."""
        check_states(self, states)
        if not is_move(self, states, move):
            raise BadMove(move)
        return led_to(self, states, move)

    def able(self, states):
        """Return the ascending list of the indexes of the hands that some move takes along."""
        check_states(self, states)
        ready = [word for word in self.words if all([len(row) > 0 for row in choices(self, states, word)])]
        return [at for at, hand in enumerate(self.hands) if any([word in hand.words for word in ready])]

    def with_diligent(self, row):
        """Return the system in which exactly the hands are diligent that the row names."""
        return System(self.hands, row)

    def started_at(self, states):
        """Return the system in which each hand starts at its state in the standing."""
        check_states(self, states)
        return System([Hand(state, hand.steps) for state, hand in zip(states, self.hands)], self.diligent)

    def __eq__(self, other):
        return isinstance(other, System) and self.hands == other.hands and self.diligent == other.diligent

    def __add__(self, other):
        return side_by_side(self, other)

    def __radd__(self, other):
        return side_by_side(other, self)


def check_hands(hands):
    """Raise BadHands if a system cannot have these hands."""
    if not is_row(hands) or not 1 <= len(hands) <= MOST_HANDS:
        raise BadHands(-1)
    for index, hand in enumerate(hands):
        if not isinstance(hand, Hand):
            raise BadHands(index)


def chosen_hands(diligent, many):
    """Return the ascending tuple of the diligent ones of so many hands, or raise BadDiligent."""
    if diligent is None:
        return tuple(range(many))
    if not is_row(diligent):
        raise BadDiligent(diligent)
    chosen = {}
    for item in diligent:
        if not is_whole(item) or not 0 <= item < many or item in chosen:
            raise BadDiligent(item)
        chosen[item] = True
    return tuple(sorted(chosen))


def is_standing(system, value):
    """Tell whether a value is a standing of the system."""
    if not isinstance(value, tuple) or len(value) != len(system.hands):
        return False
    return all([is_whole(state) and state in hand.states for state, hand in zip(value, system.hands)])


def check_states(system, states):
    """Raise BadStates if a value is not a standing of the system."""
    if not is_standing(system, states):
        raise BadStates(states)


def choices(system, states, word):
    """Return for each hand the numbers from which a move with the word chooses at the standing.

    None is the only choice of a hand that does not have the word. A hand that has the word
    but no step for it here has no choice at all, so there is no such move.
    """
    return [
        hand.exits.get((state, word), ()) if word in hand.words else (None,)
        for state, hand in zip(states, system.hands)
    ]


def numbers_of(system, states, word):
    """Return the ascending list of the numbers of all moves with the word at the standing."""
    found = [()]
    for row in choices(system, states, word):
        found = [numbers + (number,) for numbers in found for number in row]
    return found


def is_move(system, states, value):
    """Tell whether a value is a move at the standing."""
    if not isinstance(value, tuple) or len(value) != 2:
        return False
    word, numbers = value
    if not is_name(word) or word not in system.words:
        return False
    if not isinstance(numbers, tuple) or len(numbers) != len(system.hands):
        return False
    rows = choices(system, states, word)
    return all([is_choice(number, row) for number, row in zip(numbers, rows)])


def is_choice(value, row):
    """Tell whether a value is one of the choices; for Python True would be equal to 1."""
    return (value is None or is_whole(value)) and value in row


def led_to(system, states, move):
    """Return the standing to which a move at the standing leads."""
    return tuple([
        state if number is None else hand.steps[number][2]
        for state, hand, number in zip(states, system.hands, move[1])
    ])


def as_system(value):
    """Return an operand as a system: a hand stands for a system of this one diligent hand."""
    if isinstance(value, System):
        return value
    if isinstance(value, Hand):
        return System([value])
    raise BadHands(-1)


def side_by_side(one, other):
    """Return the system with the hands of one operand, then those of the other."""
    left = as_system(one)
    right = as_system(other)
    many = len(left.hands)
    diligent = left.diligent + tuple([many + at for at in right.diligent])
    return System(left.hands + right.hands, diligent)


def next_standings(system, states):
    """Return the standings to which the moves at a standing lead."""
    return [led_to(system, states, move) for move in system.moves(states)]


def standings(system):
    """Return the ascending list of all standings to which runs lead."""
    return all_reached(system.start, lambda states: next_standings(system, states), MOST_STANDINGS)
