"""Systems that reveal alike, and questions that part those that do not."""

from surelydone.families import done_sets
from surelydone.subsets import by_length


def alike(one, other):
    """Tell whether two systems answer every question in the same way."""
    return done_sets(one) == done_sets(other)


def parting(one, other):
    """Return a question that exactly one of two systems answers with no, or None if they reveal alike."""
    left = done_sets(one)
    right = done_sets(other)
    single = [words for words in left if words not in right] + [words for words in right if words not in left]
    if not single:
        return None
    seen = by_length(single)[0]
    return seen, tuple([word for word in sorted(set(one.words + other.words)) if word not in seen])
