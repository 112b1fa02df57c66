"""Runs: what they pass and do, whether they are fair, and how they go on fairly."""

from surelydone.deeds import Deeds
from surelydone.errors import BadRun
from surelydone.systems import choices, is_move, led_to


def standings_of(system, run):
    """Return the list of the standings of a run, the start first, or raise BadRun."""
    if not isinstance(run, tuple):
        raise BadRun(-1)
    states = system.start
    found = [states]
    for index, move in enumerate(run):
        if not is_move(system, states, move):
            raise BadRun(index)
        states = led_to(system, states, move)
        found.append(states)
    return found


def end_of(system, run):
    """Return the standing to which a run leads."""
    return standings_of(system, run)[-1]


def words_of(system, run):
    """Return the words of the moves of a run, in order, as a tuple."""
    standings_of(system, run)
    return tuple([move[0] for move in run])


def done_in(system, run):
    """Return the deeds of a run."""
    return Deeds(words_of(system, run))


def passed(system, run):
    """Yield the standings of a run, the start first."""
    # The whole run is looked at before the first standing is given away: a wrong move may come late.
    yield from standings_of(system, run)


def is_fair(system, stem, loop):
    """Tell whether a stem and a loop describe a fair run."""
    if not isinstance(stem, tuple) or not isinstance(loop, tuple):
        raise BadRun(-1)
    found = standings_of(system, stem + loop)
    if found[len(stem)] != found[-1]:
        return False
    # Without a loop this is the end alone: the run is fair if no diligent hand is able there.
    around = sorted(set(found[len(stem):]))
    return all([is_served(system, loop, around, hand) for hand in system.diligent])


def is_served(system, loop, around, hand):
    """Tell whether a loop takes a hand along, or passes a standing at which the hand is not able."""
    if any([takes_along(move, hand) for move in loop]):
        return True
    return any([hand not in system.able(states) for states in around])


def takes_along(move, hand):
    """Tell whether a move takes a hand along."""
    return move[1][hand] is not None


def fair_run(system, run):
    """Return a stem that begins with the run, and a loop, that describe a fair run.

    The diligent hands take turns. Where a round of turns begins at a standing at which a round
    began before, the moves since then lead round to it, and each hand had its turn in them.
    """
    states = end_of(system, run)
    moves = []
    begun = {}
    while states not in begun:
        begun[states] = len(moves)
        for hand in system.diligent:
            move = move_with(system, states, hand)
            if move is not None:
                moves.append(move)
                states = led_to(system, states, move)
    first = begun[states]
    return run + tuple(moves[:first]), tuple(moves[first:])


def move_with(system, states, hand):
    """Return the first move at a standing that takes a hand along, or None if the hand is not able."""
    for word in system.hands[hand].words:
        rows = choices(system, states, word)
        if all([len(row) > 0 for row in rows]):
            return word, tuple([row[0] for row in rows])
    return None
