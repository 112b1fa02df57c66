"""Smallest and greatest subsets. Sets are ascending tuples here."""


def has_all(row, items):
    """Tell whether all items are in a row."""
    return all([item in row for item in items])


def has_any(row, items):
    """Tell whether one of the items is in a row."""
    return any([item in row for item in items])


def by_length(sets):
    """Return the list of sets by length, then ascending."""
    return sorted(sorted(sets), key=len)


def subsets_of(items):
    """Return all subsets of an ascending row, by length, then ascending."""
    found = [()]
    for item in items:
        found = found + [kept + (item,) for kept in found]
    return by_length(found)


def least_sets(items, is_enough):
    """Return the subsets that are enough and of which no proper subset is, by length, then ascending.

    What is enough must stay enough with more items.
    """
    found = []
    for chosen in subsets_of(items):
        # All smaller sets that are enough have one of the found sets in them.
        if not any([has_all(chosen, less) for less in found]) and is_enough(chosen):
            found.append(chosen)
    return found


def greatest_sets_short(items, is_enough):
    """Return the subsets that are not enough, while each set with all their items and more is, ascending.

    What is enough must stay enough with more items.
    """
    found = []
    for chosen in subsets_of(items)[::-1]:
        if not any([has_all(more, chosen) for more in found]) and not is_enough(chosen):
            found.append(chosen)
    return sorted(found)
