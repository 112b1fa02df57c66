"""Questions, with their words as ascending tuples, and their marked standings."""

from surelydone.deeds import Deeds
from surelydone.search import all_reached
from surelydone.systems import is_standing, led_to

MOST_MARKED = 1000


def asked_words(words):
    """Return the different names of a row of names or of deeds as an ascending tuple, or raise BadWords."""
    told = Deeds(words)
    return tuple(told.names())


def first_marked(system, seen):
    """Return the first marked standing."""
    return system.start, tuple([False for word in seen])


def is_marked(system, seen, value):
    """Tell whether a value is a marked standing."""
    if not isinstance(value, tuple) or len(value) != 2:
        return False
    states, flags = value
    if not isinstance(flags, tuple) or len(flags) != len(seen):
        return False
    return is_standing(system, states) and all([isinstance(flag, bool) for flag in flags])


def is_complete(marked):
    """Tell whether all flags of a marked standing are set: the document calls it open."""
    return all(marked[1])


def flags_after(seen, flags, word):
    """Return the flags behind a move with the word."""
    return tuple([flag or word == name for name, flag in zip(seen, flags)])


def ways_from(system, seen, wanted, marked):
    """Return the moves at a marked standing whose word is not wanted, each with where it leads."""
    states, flags = marked
    later = {word: flags_after(seen, flags, word) for word in system.words if word not in wanted}
    return [
        (move, (led_to(system, states, move), later[move[0]]))
        for move in system.moves(states) if move[0] in later
    ]


def places_behind(ways):
    """Return only the places to which ways lead."""
    return [after for move, after in ways]


def met_ways(system, seen, wanted):
    """Return the ways from each met marked standing, in ascending order of these, or raise TooMany."""
    met = all_reached(
        first_marked(system, seen),
        lambda marked: places_behind(ways_from(system, seen, wanted, marked)),
        MOST_MARKED,
    )
    return {marked: ways_from(system, seen, wanted, marked) for marked in met}
