"""The desk: a system whose diligent hands can be chosen anew, with deeds that can be taken back."""

from surelydone.errors import BadDiligent, NothingDone
from surelydone.kinds import is_whole
from surelydone.reveals import reveals


class Desk:
    """Holds a system as it is now, and those from before each deed that was not taken back."""

    def __init__(self, system):
        self.now = system
        self.earlier = []

    @property
    def system(self):
        """The system with the hands that are diligent now."""
        return self.now

    def __getitem__(self, at):
        check_hand(self.now, at)
        return at in self.now.diligent

    def __setitem__(self, at, worth):
        check_hand(self.now, at)
        if not isinstance(worth, bool):
            raise BadDiligent(worth)
        others = [hand for hand in self.now.diligent if hand != at]
        self.choose(others + [at] if worth else others)

    def __iter__(self):
        raise TypeError("a desk is not iterated over")

    def reveals(self, *, seen=(), wanted):
        """Tell whether the seen words reveal the wanted words in the system as it is now."""
        return reveals(self.now, seen=seen, wanted=wanted)

    def choose(self, row):
        """Make exactly the hands diligent that a row names, or all hands if it is None."""
        chosen = self.now.with_diligent(row)
        self.earlier.append(self.now)
        self.now = chosen

    def undo(self):
        """Take back the last deed that was not yet taken back."""
        if len(self.earlier) == 0:
            raise NothingDone()
        self.now = self.earlier.pop()

    def trying(self, deed):
        """Return what a deed on this desk returns; behind it the desk is as it was before."""
        now = self.now
        # A copy, since the deed may take back what was done before it.
        earlier = list(self.earlier)
        try:
            return deed(self)
        finally:
            self.now = now
            self.earlier = earlier


def check_hand(system, at):
    """Raise BadDiligent if a value is not the index of a hand."""
    if not is_whole(at) or not 0 <= at < len(system.hands):
        raise BadDiligent(at)
