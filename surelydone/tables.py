"""Tables: the ranks and hands of open marked standings, and what a table must fulfil."""

from surelydone.kinds import is_whole
from surelydone.parts import strong_parts
from surelydone.questions import first_marked, is_complete, is_marked, places_behind, ways_from
from surelydone.runs import takes_along


def ranks_of(system, ways):
    """Return the rank and the hand of each open marked standing, in the order in which the ways tell of them.

    The hand is None in a part in which a fair run can stay. If there is none, it is a table's dict.
    """
    following = {marked: places_behind(ways[marked]) for marked in ways if is_complete(marked)}
    ranks = {}
    for rank, part in enumerate(strong_parts(following)):
        hand = left_out(system, ways_within(ways, part))
        for marked in part:
            ranks[marked] = (rank, hand)
    return {marked: ranks[marked] for marked in following}


def ways_within(ways, part):
    """Return the ways from the places of a part that lead to places of the part."""
    inside = {place: True for place in part}
    return {place: [way for way in ways[place] if way[1] in inside] for place in part}


def left_out(system, inside):
    """Return a diligent hand that waits at all places of a part, or None if there is none."""
    for hand in system.diligent:
        if waits_in(system, inside, hand):
            return hand
    return None


def waits_in(system, inside, hand):
    """Tell whether a hand waits at all places of a part."""
    return all([waits_at(system, inside, marked, hand) for marked in inside])


def waits_at(system, inside, marked, hand):
    """Tell whether a hand is able at a marked standing and taken along by no move from there inside the part."""
    if hand not in system.able(marked[0]):
        return False
    return not any([takes_along(move, hand) for move, after in inside[marked]])


def has_table_form(system, seen, value):
    """Tell whether a value consists of what a table consists of, whatever it fulfils."""
    if not isinstance(value, tuple) or len(value) != 2:
        return False
    ahead, ranks = value
    if not isinstance(ahead, list) or not isinstance(ranks, dict):
        return False
    if not all([is_marked(system, seen, marked) and not is_complete(marked) for marked in ahead]):
        return False
    if not all([is_marked(system, seen, marked) and is_complete(marked) for marked in ranks]):
        return False
    return all([is_rank(worth) for worth in ranks.values()])


def is_rank(value):
    """Tell whether a value is a tuple of a rank and an integer, which is a hand if it is a diligent one."""
    if not isinstance(value, tuple) or len(value) != 2:
        return False
    rank, hand = value
    return is_whole(rank) and rank >= 0 and is_whole(hand)


def keeps_table(system, seen, wanted, ahead, ranks):
    """Tell whether what has the form of a table fulfils the conditions of one."""
    known = {marked: True for marked in ahead + list(ranks)}
    if first_marked(system, seen) not in known:
        return False
    for marked in known:
        ways = ways_from(system, seen, wanted, marked)
        if marked in ranks:
            if not keeps_rank(system, ranks, marked, ways):
                return False
        elif not all([after in known for after in places_behind(ways)]):
            return False
    return True


def keeps_rank(system, ranks, marked, ways):
    """Tell whether the rank and the hand of an open marked standing are those of a table."""
    rank, hand = ranks[marked]
    if hand not in system.diligent or hand not in system.able(marked[0]):
        return False
    return all([may_follow(ranks, ranks[marked], move, after) for move, after in ways])


def may_follow(ranks, worth, move, after):
    """Tell whether a move may lead from a rank and a hand to a place."""
    if after not in ranks:
        return False
    rank, hand = worth
    later, other = ranks[after]
    return later < rank or (later == rank and other == hand and not takes_along(move, hand))
