"""The sets of words that fair runs do, and what they tell of single words."""

from surelydone.pairs import pair_behind, pair_ways, sets_done, ways_behind
from surelydone.questions import asked_words
from surelydone.subsets import has_all


def done_sets(system):
    """Return the list of all done sets, by length, then ascending."""
    return sets_done(system, pair_ways(system))


def always(system):
    """Return the ascending list of the words that every fair run does."""
    return words_in_all(system, done_sets(system))


def possible(system):
    """Return the ascending list of the words that some fair run does."""
    return words_in_some(system, done_sets(system))


def revealed(system, seen):
    """Return the ascending list of the words that every fair run does that does all seen words."""
    names = asked_words(seen)
    return words_in_all(system, [words for words in done_sets(system) if has_all(words, names)])


def future(system, run):
    """Return the words that all, that some and that no fair runs do which begin with a run."""
    first = pair_behind(system, run)
    sets = sets_done(system, ways_behind(pair_ways(system), first))
    sure = words_in_all(system, sets)
    some = words_in_some(system, sets)
    left = [word for word in some if word not in sure]
    out = [word for word in system.words if word not in some]
    return sure, left, out


def together(system):
    """Return the list of all lots: the tuples of possible words that go together."""
    return lots_of(system, done_sets(system))


def order(system):
    """Return the ascending list of the indexes of two lots of which the first reveals the second."""
    sets = done_sets(system)
    lots = lots_of(system, sets)
    return [
        (one, other) for one, lot in enumerate(lots) for other, more in enumerate(lots)
        if one != other and all([has_all(words, more) for words in sets if has_all(words, lot)])
    ]


def words_in_all(system, sets):
    """Return the words of the system that are in all of the sets."""
    return [word for word in system.words if all([word in words for words in sets])]


def words_in_some(system, sets):
    """Return the words of the system that are in at least one of the sets."""
    return [word for word in system.words if any([word in words for words in sets])]


def lots_of(system, sets):
    """Return the lots in the order of their first words: words go together that are in the same done sets."""
    lots = {}
    for word in words_in_some(system, sets):
        places = tuple([word in words for words in sets])
        lots[places] = lots.get(places, ()) + (word,)
    return list(lots.values())
