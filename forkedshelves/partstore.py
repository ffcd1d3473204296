"""Parts of trees, each kept once and lent to whoever needs it."""


class LentPart:
    """A leaf, or a block with two halves. A half is the number of a part, or 0 if there is none.

    Equal parts have equal keys. The value of a leaf is no part of its key: the stamp tells which deed wrote it.
    """

    def __init__(self, key, block, halves, leaf):
        self.key = key
        self.block = block
        self.halves = halves
        self.leaf = leaf
        self.users = 0


class PartStore:
    """Keeps parts under numbers from 1, which are not used twice. The number 0 stands for no part.

    The users of a part are the larger parts of which it is a half, and the trees of which it is the largest part.
    """

    def __init__(self):
        self._parts = {}
        self._numbers = {}
        self._made = 0

    def leaf_part(self, leaf):
        """Return the number of the part that is one leaf (place, value, stamp)."""
        place, _, stamp = leaf
        return self._number_of(LentPart((place, stamp), (place, 1), (0, 0), leaf))

    def joined_part(self, block, left, right):
        """Return the number of the part of a block with these halves, of which at least one is a part."""
        return self._number_of(LentPart((block, left, right), block, (left, right), None))

    def lend(self, number):
        """Count one more user of a part."""
        if number > 0:
            self._parts[number].users += 1

    def give_back(self, number):
        """Count one user less of a part. Return how many parts are removed because they have no user left."""
        if number == 0:
            return 0
        part = self._parts[number]
        part.users -= 1
        if part.users > 0:
            return 0
        del self._parts[number]
        del self._numbers[part.key]
        left, right = part.halves
        return 1 + self.give_back(left) + self.give_back(right)

    def part_at(self, number, start, size):
        """Return the number of what a part has at a block: itself, a part within it, or 0 for nothing."""
        while number > 0 and self._parts[number].block[1] > size:
            first, whole = self._parts[number].block
            left, right = self._parts[number].halves
            number = left if start < first + whole // 2 else right
        return number if number > 0 and self._parts[number].block == (start, size) else 0

    def parts_within(self, number):
        """Return a part and all parts within it, a larger one before its halves and the left half first."""
        found = []
        waiting = [number]
        while waiting:
            current = waiting.pop()
            if current > 0:
                found.append(self._parts[current])
                left, right = self._parts[current].halves
                waiting.extend([right, left])
        return found

    def kept(self):
        """Return how many parts are kept."""
        return len(self._parts)

    def made(self):
        """Return how many parts have been made."""
        return self._made

    def _number_of(self, part):
        """Return the number of the equal part that is kept, or keep this one if there is none."""
        if part.key not in self._numbers:
            self._made += 1
            self._numbers[part.key] = self._made
            self._parts[self._made] = part
            left, right = part.halves
            self.lend(left)
            self.lend(right)
        return self._numbers[part.key]
