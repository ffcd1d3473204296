"""Desks: histories with named forks, kept answers, and steps that can be taken back."""

from forkedshelves.answers import Answers
from forkedshelves.bench import Bench
from forkedshelves.deeds import done, is_deed
from forkedshelves.errors import BadDeed, NothingToRedo, NothingToUndo
from forkedshelves.forest import Forest
from forkedshelves.history import History
from forkedshelves.shelving import plant_node


class Desk:
    """Forks of a book, changed by deeds."""

    def __init__(self, rulebook, book, *, depth=8):
        self._depth = depth
        self._bench = Bench(History(rulebook, book), {"main": 0}, Answers(), [])
        # The benches before the steps that can be taken back, and those after the steps that were taken back.
        self._earlier = []
        self._later = []

    def fork(self, name, source):
        """Make a fork with the tip of another one, and return this tip."""
        return self.attempt([("fork", name, source)])[0]

    def drop(self, name):
        """Remove a fork."""
        return self.attempt([("drop", name)])[0]

    def write(self, name, writes):
        """Write on the tip of a fork, and return its new tip."""
        return self.attempt([("write", name, writes)])[0]

    def merge(self, name, others, *, answers=None):
        """Merge the tips of other forks into a fork, and return the tip that it has then."""
        return self.attempt([("merge", name, others, {} if answers is None else answers)])[0]

    def settle(self, name, other):
        """Merge another fork into a fork by the kept answers, and return its new tip."""
        return self.attempt([("settle", name, other)])[0]

    def carry(self, name, source, places):
        """Carry changes of one fork, with what they need, over to another one, and return its new tip."""
        return self.attempt([("carry", name, source, places)])[0]

    def prefer(self, winner, loser):
        """Record that one mark is preferred to another one, and tell whether this is new."""
        return self.attempt([("prefer", winner, loser)])[0]

    def forget(self, winner, loser):
        """Remove an answer, and tell whether it was recorded."""
        return self.attempt([("forget", winner, loser)])[0]

    def names(self):
        """Return the ascending list of the names of the forks."""
        return sorted(self._bench.tips)

    def tip(self, name):
        """Return the tip of a fork."""
        return self._bench.tip(name)

    def book(self, name):
        """Return the book of a fork."""
        return self._bench.graph.book(self._bench.tip(name))

    def history(self):
        """Return a copy of the history."""
        return self._bench.graph.clone()

    def answers(self):
        """Return a copy of the kept answers."""
        return self._bench.preferences.clone()

    def part_count(self):
        """Return the number of different parts of the trees of all tips."""
        forest = Forest(self._depth)
        for name in self._bench.tips:
            plant_node(forest, self._bench.graph, self._bench.tips[name])
        return forest.part_count()

    def journal(self):
        """Return the texts of the deeds that changed something, without those that were taken back."""
        return list(self._bench.lines)

    def attempt(self, deeds):
        """Do deeds, all or none, as one step, and return the list of what they return."""
        bench = self._bench
        results = []
        for position, deed in enumerate(deeds):
            if not is_deed(deed):
                raise BadDeed(position)
            bench, result = done(bench, deed)
            results.append(result)
        # Each deed that changes something has left a text.
        if len(bench.lines) > len(self._bench.lines):
            self._earlier.append(self._bench)
            self._later = []
            self._bench = bench
        return results

    def undo(self):
        """Take the last step back."""
        if not self._earlier:
            raise NothingToUndo()
        self._later.append(self._bench)
        self._bench = self._earlier.pop()

    def redo(self):
        """Do the last step again that was taken back."""
        if not self._later:
            raise NothingToRedo()
        self._earlier.append(self._bench)
        self._bench = self._later.pop()

    def steps(self):
        """Return the number of steps that can be taken back."""
        return len(self._earlier)

    def undone(self):
        """Return the number of steps that can be done again."""
        return len(self._later)
