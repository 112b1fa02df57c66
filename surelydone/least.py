"""Least sets of words and of hands that make the answer of a question yes, and greatest ones that do not."""

from surelydone.errors import TooMany
from surelydone.families import done_sets
from surelydone.pairs import pair_ways, stays_of
from surelydone.questions import asked_words
from surelydone.reveals import lasso
from surelydone.subsets import greatest_sets_short, has_all, has_any, least_sets

MOST_AMONG = 6


def least_seen(system, *, among, wanted):
    """Return the list of the least sets of names that reveal the wanted words."""
    offered = asked_words(among)
    barred = asked_words(wanted)
    check_offered(offered)
    sets = done_sets(system)
    return least_sets(offered, lambda names: is_revealed(sets, names, barred))


def least_wanted(system, *, seen=(), among):
    """Return the list of the least sets of names that are revealed by the seen words."""
    names = asked_words(seen)
    offered = asked_words(among)
    check_offered(offered)
    sets = done_sets(system)
    return least_sets(offered, lambda barred: is_revealed(sets, names, barred))


def least_diligent(system, *, seen=(), wanted):
    """Return the list of the least sets of hands that make the answer yes if exactly they are diligent."""
    stays = stays_against(system, asked_words(seen), asked_words(wanted))
    return least_sets(tuple(range(len(system.hands))), lambda chosen: are_enough(stays, chosen))


def against(system, *, seen=(), wanted):
    """Return the list of the greatest sets of hands that are not enough, each with a lasso that shows it."""
    names = asked_words(seen)
    barred = asked_words(wanted)
    stays = stays_against(system, names, barred)
    found = greatest_sets_short(tuple(range(len(system.hands))), lambda chosen: are_enough(stays, chosen))
    return [(hands, lasso(system.with_diligent(hands), seen=names, wanted=barred)) for hands in found]


def check_offered(names):
    """Raise TooMany if there are too many names to choose among."""
    if len(names) > MOST_AMONG:
        raise TooMany(MOST_AMONG)


def is_revealed(sets, seen, wanted):
    """Tell whether each of the done sets that has all seen words has a wanted word."""
    return all([has_any(words, wanted) for words in sets if has_all(words, seen)])


def stays_against(system, seen, wanted):
    """Return the waiting hands of each part of the pairs in which a run that speaks for a no could stay."""
    stays = stays_of(system, pair_ways(system))
    return [waiting for words, waiting in stays if has_all(words, seen) and not has_any(words, wanted)]


def are_enough(stays, chosen):
    """Tell whether no run could stay anywhere if exactly the chosen hands are diligent."""
    return all([has_any(waiting, chosen) for waiting in stays])
