"""A desk on which the halls of a net are joined and parted, step by step."""

from restalike.errors import BadPair, NoStep
from restalike.nets import MOST_HALLS, check_number, is_way
from restalike.restturns import rest_turn


class Desk:
    """A net of so many halls, of no pairs at first, and the pairs that were turned over."""

    def __init__(self, halls):
        check_number(halls, MOST_HALLS)
        self._halls = halls
        self._joined = {}
        self._done = []

    @property
    def net(self):
        """The net that lies on the desk."""
        return self._halls, tuple(sorted(self._joined))

    @property
    def done(self):
        """The tuple of the pairs turned over and not taken back, in order."""
        return tuple(self._done)

    def turn_over(self, one, other):
        """Join two halls that aren't joined, part two that are."""
        if not is_way((one, other), self._halls):
            raise BadPair()
        pair = (min(one, other), max(one, other))
        self._change(pair)
        self._done.append(pair)

    def undo(self):
        """Take back the last turning over that isn't taken back."""
        if not self._done:
            raise NoStep()
        self._change(self._done.pop())

    def is_restalike(self):
        """Tell whether some turn leads the net to its rest."""
        return rest_turn(self.net) is not None

    def _change(self, pair):
        """Join the halls of a pair, or part them, and keep no account of it."""
        if pair in self._joined:
            del self._joined[pair]
        else:
            self._joined[pair] = True
