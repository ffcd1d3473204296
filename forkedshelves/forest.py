"""Forests: trees of leaves that share their equal parts."""

from forkedshelves.errors import NoTree
from forkedshelves.leaves import leaves_of, merged_table, table_of, written_table
from forkedshelves.partstore import PartStore


class Forest:
    """Trees over the places 0 to 2 ** depth - 1, numbered from 1."""

    def __init__(self, depth):
        self.depth = depth
        self._store = PartStore()
        # The largest part of each tree; 0 for a tree without leaves.
        self._roots = {}
        self._last = 0

    def plant(self, leaves):
        """Make a tree with the leaves, a list of (place, value, stamp), and return its number."""
        return self._new_tree(table_of(leaves))

    def write(self, tree, writes, stamp):
        """Make a tree from a tree and writes that have a stamp, and return its number."""
        return self._new_tree(written_table(self._table(tree), writes, stamp))

    def merge(self, base, first, second):
        """Make a tree that merges two trees over a base, and return its number."""
        tables = [self._table(tree) for tree in (base, first, second)]
        return self._new_tree(merged_table(tables[0], tables[1], tables[2]))

    def fell(self, tree):
        """Remove a tree, and return the number of parts that no other tree has."""
        gone = self._store.give_back(self._root(tree))
        del self._roots[tree]
        return gone

    def trees(self):
        """Return the ascending list of the trees."""
        return sorted(self._roots)

    def leaves(self, tree):
        """Return the ascending list of the leaves (place, value, stamp) of a tree."""
        parts = self._store.parts_within(self._root(tree))
        return sorted([part.leaf for part in parts if part.leaf is not None])

    def book(self, tree):
        """Return the book of the values of a tree."""
        return {place: value for place, value, _ in self.leaves(tree)}

    def parts(self, tree):
        """Return the ascending list of the blocks at which a tree has parts."""
        return sorted([part.block for part in self._store.parts_within(self._root(tree))])

    def sharers(self, tree, start, size):
        """Return the ascending list of the trees that have the same part at a block as the tree."""
        number = self.part_at(tree, start, size)
        if number == 0:
            return []
        return [other for other in self.trees() if self.part_at(other, start, size) == number]

    def part_count(self):
        """Return the number of different parts of all trees."""
        return self._store.kept()

    def made(self):
        """Return the number of parts that have been made so far."""
        return self._store.made()

    def part_at(self, tree, start, size):
        """Return the number of the part that a tree has at a block, or 0 if it has none there.

        Two trees have the same part exactly if the numbers are equal.
        """
        return self._store.part_at(self._root(tree), start, size)

    def _root(self, tree):
        """Return the number of the largest part of a tree."""
        if tree not in self._roots:
            raise NoTree(tree)
        return self._roots[tree]

    def _table(self, tree):
        """Return the table of the leaves of a tree."""
        return table_of(self.leaves(tree))

    def _new_tree(self, table):
        """Make a tree of a table of leaves, and return its number."""
        root = self._grow(leaves_of(table), 0, 1 << self.depth)
        self._store.lend(root)
        self._last += 1
        self._roots[self._last] = root
        return self._last

    def _grow(self, leaves, start, size):
        """Return the number of the part that has exactly these leaves in a block, made only if it is new."""
        if not leaves:
            return 0
        if size == 1:
            return self._store.leaf_part(leaves[0])
        half = size // 2
        middle = start + half
        left = self._grow([leaf for leaf in leaves if leaf[0] < middle], start, half)
        right = self._grow([leaf for leaf in leaves if leaf[0] >= middle], middle, half)
        return self._store.joined_part((start, size), left, right)
