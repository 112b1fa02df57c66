"""The strongly connected parts of places and ways, and shortest ways.

The following places of each place are a dict of lists. Ways are a dict of lists, too,
of a move and the place to which it leads.
"""


def turned(following):
    """Return the same places with each step between them turned round."""
    before = {place: [] for place in following}
    for place in following:
        for after in following[place]:
            before[after].append(place)
    return before


def trees(following, firsts):
    """Search deep first from each of the first places that was not found from an earlier one.

    Each tree is the list of the places found in one search, in the order in which the search leaves them.
    """
    found = {}
    rows = []
    for first in firsts:
        row = []
        ahead = [(first, False)]
        while ahead:
            place, is_left = ahead.pop()
            if is_left:
                row.append(place)
            elif place not in found:
                found[place] = True
                ahead.append((place, True))
                ahead.extend([(after, False) for after in following[place] if after not in found])
        if row:
            rows.append(row)
    return rows


def strong_parts(following):
    """Return the strongly connected parts as lists; a part leads to no part behind it in the list."""
    before = turned(following)
    left = [place for row in trees(before, list(before)) for place in row]
    # Against the steps, what was left last has all others behind it; so along the steps it keeps to its part.
    return trees(following, left[::-1])


def shortest_way(ways, first, is_goal):
    """Return the moves of a shortest way from a place to a goal, and this goal. There must be one."""
    moves = {first: ()}
    row = [first]
    at = 0
    place = first
    while not is_goal(place):
        for move, after in ways[place]:
            if after not in moves:
                moves[after] = moves[place] + (move,)
                row.append(after)
        at += 1
        place = row[at]
    return moves[place], place
