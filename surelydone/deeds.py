"""Deeds: sets of names that can be joined, met and lessened."""

from surelydone.errors import BadWords
from surelydone.kinds import is_name, is_row


class Deeds:
    """A set of names. Only the in-place operators change it."""

    def __init__(self, words=()):
        self.kept = {name: True for name in told_names(words)}

    def names(self):
        """Return the names as a new ascending list."""
        return sorted(self.kept)

    def within(self, other):
        """Tell whether every name is in the other deeds, too."""
        whole = Deeds(other)
        return all([name in whole for name in self.kept])

    def __or__(self, other):
        return Deeds(self.names() + told_names(other))

    def __ror__(self, other):
        return self | other

    def __ior__(self, other):
        result = self | other
        self.kept = result.kept
        return self

    def __and__(self, other):
        return Deeds([name for name in told_names(other) if name in self.kept])

    def __rand__(self, other):
        return self & other

    def __iand__(self, other):
        result = self & other
        self.kept = result.kept
        return self

    def __sub__(self, other):
        away = Deeds(other)
        return Deeds([name for name in self.kept if name not in away.kept])

    def __rsub__(self, other):
        return Deeds(other) - self

    def __isub__(self, other):
        result = self - other
        self.kept = result.kept
        return self

    def __eq__(self, other):
        return isinstance(other, Deeds) and self.kept == other.kept

    def __contains__(self, x):
        return isinstance(x, str) and x in self.kept

    def __len__(self):
        return len(self.kept)

    def __bool__(self):
        return bool(self.kept)


def told_names(words):
    """Return the names of a row of names or of deeds as a new list, or raise BadWords."""
    if isinstance(words, Deeds):
        return words.names()
    if not is_row(words):
        raise BadWords(words)
    for word in words:
        if not is_name(word):
            raise BadWords(word)
    return list(words)
