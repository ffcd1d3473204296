"""Kept answers: which marks a person prefers to which others."""

from forkedshelves.errors import Contradiction


class Answers:
    """Pairs (winner, loser) of marks."""

    def __init__(self):
        # A dict in ascending order of its keys. A change makes a new one, so that a loop over the pairs goes on.
        self._pairs = {}

    def __iter__(self):
        """Go over the recorded pairs in ascending order."""
        return iter(self._pairs)

    def prefer(self, winner, loser):
        """Record that one mark is preferred to another one."""
        if winner == loser or self.prefers(loser, winner):
            raise Contradiction(winner, loser)
        self._pairs = {pair: True for pair in sorted([*self._pairs, (winner, loser)])}

    def forget(self, winner, loser):
        """Remove an answer, and tell whether it was recorded."""
        is_recorded = self.prefers(winner, loser)
        self._pairs = {pair: True for pair in self._pairs if pair != (winner, loser)}
        return is_recorded

    def prefers(self, winner, loser):
        """Tell whether an answer is recorded."""
        return (winner, loser) in self._pairs

    def clone(self):
        """Return an independent copy."""
        other = Answers()
        other._pairs = {pair: True for pair in self._pairs}
        return other
