"""Pairs of a standing and the words that a run to it has done, and the parts of them in which runs can stay.

The pairs of a system are the met marked standings of the question that sees all its words and wants none:
the flags of a pair tell which words of the system are done.
"""

from surelydone.parts import strong_parts
from surelydone.questions import met_ways, places_behind
from surelydone.runs import done_in, end_of
from surelydone.search import all_reached
from surelydone.subsets import by_length, has_any
from surelydone.tables import waits_in, ways_within


def pair_ways(system):
    """Return the ways from each pair to which runs come, or raise TooMany."""
    return met_ways(system, system.words, ())


def pair_behind(system, run):
    """Return the pair to which a run leads, or raise BadRun."""
    deeds = done_in(system, run)
    return end_of(system, run), tuple([word in deeds for word in system.words])


def ways_behind(ways, first):
    """Return those of the ways to which one comes from a pair."""
    reached = all_reached(first, lambda pair: places_behind(ways[pair]), len(ways))
    return {pair: ways[pair] for pair in reached}


def words_at(system, pair):
    """Return the words that are done at a pair, as an ascending tuple."""
    return tuple([word for word, flag in zip(system.words, pair[1]) if flag])


def stays_of(system, ways):
    """Return the words that are done and the hands that wait, diligent or not, in each part of the pairs.

    A word that is done stays done, so all pairs of a part have the same words. A fair run can stay
    in a part exactly if no hand that waits in it is diligent.
    """
    following = {pair: places_behind(ways[pair]) for pair in ways}
    return [
        (words_at(system, part[0]), waiting_hands(system, ways_within(ways, part)))
        for part in strong_parts(following)
    ]


def waiting_hands(system, inside):
    """Return the hands that wait at all pairs of a part, as an ascending tuple."""
    return tuple([hand for hand in range(len(system.hands)) if waits_in(system, inside, hand)])


def sets_done(system, ways):
    """Return the sets of words that fair runs do which stay among these ways, by length, then ascending."""
    stays = stays_of(system, ways)
    return by_length(sorted({words for words, waiting in stays if not has_any(waiting, system.diligent)}))
