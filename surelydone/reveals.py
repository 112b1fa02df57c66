"""Questions: which words reveal which other words, with a table for a yes and a lasso for a no."""

from surelydone.errors import BadRun
from surelydone.parts import shortest_way
from surelydone.questions import asked_words, first_marked, met_ways
from surelydone.runs import is_fair, takes_along
from surelydone.tables import has_table_form, keeps_table, ranks_of, waits_at, ways_within


def reveals(system, *, seen=(), wanted):
    """Tell whether every fair run that does all seen words does a wanted word."""
    ways = met_ways(system, asked_words(seen), asked_words(wanted))
    return len(lasting(ranks_of(system, ways))) == 0


def table(system, *, seen=(), wanted):
    """Return a table of the question, or None if the answer is no."""
    ways = met_ways(system, asked_words(seen), asked_words(wanted))
    ranks = ranks_of(system, ways)
    if lasting(ranks):
        return None
    return [marked for marked in ways if marked not in ranks], ranks


def is_table(system, thing, *, seen=(), wanted):
    """Tell whether a value is a table of the question."""
    names = asked_words(seen)
    barred = asked_words(wanted)
    if not has_table_form(system, names, thing):
        return False
    ahead, ranks = thing
    return keeps_table(system, names, barred, ahead, ranks)


def lasso(system, *, seen=(), wanted):
    """Return a lasso of the question, or None if the answer is yes."""
    names = asked_words(seen)
    ways = met_ways(system, names, asked_words(wanted))
    ranks = ranks_of(system, ways)
    goals = lasting(ranks)
    if not goals:
        return None
    stem, end = shortest_way(ways, first_marked(system, names), lambda marked: marked in goals)
    part = [marked for marked in goals if ranks[marked] == ranks[end]]
    return stem, round_way(system, ways_within(ways, part), end)


def is_lasso(system, thing, *, seen=(), wanted):
    """Tell whether a value is a lasso of the question."""
    names = asked_words(seen)
    barred = asked_words(wanted)
    if not isinstance(thing, tuple) or len(thing) != 2:
        return False
    stem, loop = thing
    try:
        fair = is_fair(system, stem, loop)
    except BadRun:
        return False
    done = {move[0]: True for move in stem}
    return fair and all([name in done for name in names]) and all([move[0] not in barred for move in stem + loop])


def lasting(ranks):
    """Return the marked standings of all parts in which a fair run can stay, as a dict of True."""
    return {marked: True for marked in ranks if ranks[marked][1] is None}


def round_way(system, inside, first):
    """Return the moves of a way round inside a part, from a place back to it, that is fair if it is repeated.

    It has no moves if a fair run can end at the place.
    """
    place = first
    loop = ()
    for hand in system.diligent:
        moves, place = way_to_serve(system, inside, place, hand)
        loop = loop + moves
    back, last = shortest_way(inside, place, lambda marked: marked == first)
    return loop + back


def way_to_serve(system, inside, first, hand):
    """Return the moves of a way to where a hand is not able or was just taken along, and the place where it ends."""
    moves, place = shortest_way(inside, first, lambda marked: not waits_at(system, inside, marked, hand))
    for move, after in inside[place]:
        if takes_along(move, hand):
            return moves + (move,), after
    return moves, place
