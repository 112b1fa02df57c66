"""What the document says of moves, runs, questions and done sets, done once more in the plainest way.

It reads the hands, the diligent hands and the start of a system, and uses nothing else of the program.
"""

import itertools


def moves_at(system, states):
    """Try all numbers for each word, as point 10 describes a move."""
    found = []
    for word in sorted({word for hand in system.hands for _, word, _ in hand.steps}):
        rows = [
            range(len(hand.steps)) if any(step[1] == word for step in hand.steps) else [None]
            for hand in system.hands
        ]
        for numbers in itertools.product(*rows):
            fits = [
                number is None or (hand.steps[number][0], hand.steps[number][1]) == (state, word)
                for hand, state, number in zip(system.hands, states, numbers)
            ]
            if all(fits):
                found.append((word, numbers))
    return found


def behind(system, states, move):
    return tuple(
        state if number is None else hand.steps[number][2]
        for state, hand, number in zip(states, system.hands, move[1])
    )


def taken(move):
    return {at for at, number in enumerate(move[1]) if number is not None}


def able_at(system, states):
    return set().union(*[taken(move) for move in moves_at(system, states)])


def walk(system, run):
    """The standings of a run, or None if it is none."""
    found = [system.start]
    for move in run:
        if move not in moves_at(system, found[-1]):
            return None
        found.append(behind(system, found[-1], move))
    return found


def fair(system, stem, loop):
    """Point 16, of a stem and a loop that are a run."""
    found = walk(system, stem + loop)
    assert found is not None
    if not loop:
        return not able_at(system, found[-1]) & set(system.diligent)
    around = found[len(stem):]
    if around[0] != around[-1]:
        return False
    along = set().union(*[taken(move) for move in loop])
    always = set.intersection(*[able_at(system, states) for states in around[:-1]])
    return set(system.diligent) & always <= along


def first_marked(system, seen):
    return system.start, (False,) * len(set(seen))


def marked_ways(system, seen, wanted, marked):
    """The moves at a marked standing that are not wanted, each with the marked standing to which it leads."""
    states, flags = marked
    names = sorted(set(seen))
    found = []
    for move in moves_at(system, states):
        if move[0] not in wanted:
            after = [True if name == move[0] else flag for name, flag in zip(names, flags)]
            found.append((move, (behind(system, states, move), tuple(after))))
    return found


def met(system, seen, wanted):
    """The met marked standings, each with its ways."""
    ways, ahead = {}, [first_marked(system, seen)]
    while ahead:
        marked = ahead.pop()
        if marked not in ways:
            ways[marked] = marked_ways(system, seen, wanted, marked)
            ahead.extend(after for _, after in ways[marked])
    return ways


def can_stay(system, ways, home):
    """Tell whether a fair run can come back to a marked standing again and again, or end there.

    The diligent hands are served in order: a hand is served by a move that takes it along, and
    without a move where it is not able. From the place with no hand served, one must come to the
    same place with all served.
    """
    hands = system.diligent
    ahead, found = [(home, 0)], {(home, 0)}
    while ahead:
        marked, many = ahead.pop()
        places = [(after, many) for _, after in ways[marked]]
        if many < len(hands):
            places += [(after, many + 1) for move, after in ways[marked] if hands[many] in taken(move)]
            if hands[many] not in able_at(system, marked[0]):
                places.append((marked, many + 1))
        ahead.extend(place for place in places if place not in found)
        found.update(places)
    return (home, len(hands)) in found


def answer(system, seen, wanted):
    """Point 18: no, if a fair run can stay at a marked standing with all flags set."""
    ways = met(system, seen, wanted)
    return not any(all(marked[1]) and can_stay(system, ways, marked) for marked in ways)


def keeps_conditions(system, thing, seen, wanted):
    """The conditions of point 20, of a thing that has the form of a table."""
    ahead, ranks = thing
    if first_marked(system, seen) not in ahead and first_marked(system, seen) not in ranks:
        return False
    for marked in ahead:
        for _, after in marked_ways(system, seen, wanted, marked):
            if after not in ahead and after not in ranks:
                return False
    for marked, (rank, hand) in ranks.items():
        if hand not in system.diligent or hand not in able_at(system, marked[0]):
            return False
        for move, after in marked_ways(system, seen, wanted, marked):
            if after not in ranks:
                return False
            if ranks[after][0] > rank or (hand in taken(move) and ranks[after][0] >= rank):
                return False
            if ranks[after][0] == rank and ranks[after][1] != hand:
                return False
    return True


def keeps_lasso(system, thing, seen, wanted):
    """Point 23, of a stem and a loop that are tuples of moves."""
    stem, loop = thing
    if walk(system, stem + loop) is None or not fair(system, stem, loop):
        return False
    words = [move[0] for move in stem + loop]
    return set(seen) <= {move[0] for move in stem} and not set(wanted) & set(words)


def pairs(system, first=None):
    """The pairs to which one comes from a pair, or from the start, each with its ways."""
    ways, ahead = {}, [first or (system.start, frozenset())]
    while ahead:
        pair = ahead.pop()
        if pair not in ways:
            states, words = pair
            moves = moves_at(system, states)
            ways[pair] = [(move, (behind(system, states, move), words | {move[0]})) for move in moves]
            ahead.extend(after for _, after in ways[pair])
    return ways


def done_words(system, first=None):
    """Point 25: the words of each pair at which a fair run can stay, by length, then ascending."""
    ways = pairs(system, first)
    found = {tuple(sorted(pair[1])) for pair in ways if can_stay(system, ways, pair)}
    return sorted(found, key=lambda words: (len(words), words))


def behind_run(system, run):
    """The pair to which a run leads."""
    return walk(system, run)[-1], frozenset(move[0] for move in run)


def holds(sets, seen, wanted):
    """Point 25: the answer of a question by the done sets."""
    return all(set(words) & set(wanted) for words in sets if set(seen) <= set(words))


def subsets(items):
    """All subsets of a row, by length, then ascending."""
    items = sorted(set(items))
    return [part for many in range(len(items) + 1) for part in itertools.combinations(items, many)]


def least(items, is_yes):
    """Point 30: the subsets that make the answer yes, while none of their proper subsets does."""
    yes = [set(part) for part in subsets(items) if is_yes(part)]
    return [part for part in subsets(items) if set(part) in yes and not any(less < set(part) for less in yes)]


def greatest_short(items, is_yes):
    """Point 32: the subsets with a no, while each set that has all their items and more gives a yes."""
    no = [set(part) for part in subsets(items) if not is_yes(part)]
    return sorted(part for part in subsets(items) if set(part) in no and not any(set(part) < more for more in no))
