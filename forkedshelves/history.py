"""Histories: graphs of nodes, each of which has parents, writes and a book."""

from forkedshelves.books import with_writes
from forkedshelves.errors import EmptyDeed
from forkedshelves.found import clean_book, found_by_place
from forkedshelves.graph import check_nodes
from forkedshelves.lawful import check_lawful


class Node:
    """What a history keeps of a node; nothing of it changes later."""

    def __init__(self, word, origins, writes, state, known):
        self.word = word
        self.origins = list(origins)
        self.writes = dict(writes)
        self.state = dict(state)
        # The nodes of its past, as a dict because a set is not stored.
        self.known = known


class History:
    """A graph of nodes, numbered from 0, that begins with a book."""

    def __init__(self, rulebook, book):
        check_lawful(rulebook, book)
        self.rulebook = rulebook
        self._nodes = []
        self._numbers = []
        self._add("start", [], book, book)

    def write(self, parent, writes):
        """Make a node with one parent and some writes, and return its number."""
        check_nodes(self, [parent])
        if not writes:
            raise EmptyDeed()
        state = with_writes(self._nodes[parent].state, writes)
        check_lawful(self.rulebook, state)
        return self._add("write", [parent], writes, state)

    def merge(self, parents, *, answers=None):
        """Make a node that merges one parent or several, with answers where they clash, and return its number."""
        check_nodes(self, parents)
        writes = {} if answers is None else answers
        found = found_by_place(self, parents)
        for place in writes:
            found[place] = [writes[place]]
        return self._add("merge", parents, writes, clean_book(self.rulebook, found))

    def parents(self, node):
        """Return the parents of a node as they were passed."""
        return list(self._node(node).origins)

    def written(self, node):
        """Return the writes of a node."""
        return dict(self._node(node).writes)

    def kind(self, node):
        """Return "start", "write" or "merge"."""
        return self._node(node).word

    def book(self, node):
        """Return the book of a node."""
        return dict(self._node(node).state)

    def node_count(self):
        """Return the number of nodes."""
        return len(self._nodes)

    def clone(self):
        """Return an independent copy with the same rule book."""
        other = History(self.rulebook, self._nodes[0].state)
        other._nodes = list(self._nodes)
        other._numbers = list(self._numbers)
        return other

    def __contains__(self, node):
        """Tell whether there is a node with this number."""
        return 0 <= node < len(self._numbers)

    def __iter__(self):
        """Go over the numbers of the nodes in ascending order."""
        return iter(self._numbers)

    def knows(self, node, earlier):
        """Tell whether another node is in the past of a node."""
        return earlier in self._nodes[node].known

    def past_of(self, nodes):
        """Return the ascending list of the nodes in the past of some nodes that the history has."""
        return sorted({earlier for node in nodes for earlier in self._nodes[node].known})

    def _node(self, node):
        """Return what is kept of a node."""
        check_nodes(self, [node])
        return self._nodes[node]

    def _add(self, word, origins, writes, state):
        """Add a node and return its number."""
        number = len(self._nodes)
        known = {earlier: True for earlier in self.past_of(origins)}
        known[number] = True
        self._nodes.append(Node(word, origins, writes, state, known))
        # A new list, so that a loop that goes over the nodes does not meet those that it makes.
        self._numbers = [*self._numbers, number]
        return number
