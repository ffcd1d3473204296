"""A second forest, in which every tree is a table of leaves and parts are listed as the document defines them."""


class FlatForest:
    def __init__(self, depth):
        self.depth = depth
        self.tables = {}
        self.last = 0
        self.made = 0

    def blocks(self):
        sizes = [2 ** power for power in range(self.depth + 1)]
        return [(start, size) for size in sizes for start in range(0, 2 ** self.depth, size)]

    def part(self, tree, block):
        start, size = block
        table = self.tables[tree]
        return tuple((place, table[place][1]) for place in sorted(table) if start <= place < start + size)

    def parts(self, tree):
        return {(block, self.part(tree, block)) for block in self.blocks() if self.part(tree, block)}

    def all_parts(self):
        return set().union(*[self.parts(tree) for tree in self.tables])

    def add(self, table):
        before = self.all_parts()
        self.last += 1
        self.tables[self.last] = table
        self.made += len(self.parts(self.last) - before)
        return self.last

    def plant(self, leaves):
        return self.add({place: (value, stamp) for place, value, stamp in leaves})

    def write(self, tree, writes, stamp):
        table = {place: leaf for place, leaf in self.tables[tree].items() if place not in writes}
        table.update({place: (value, stamp) for place, value in writes.items() if value > 0})
        return self.add(table)

    def merged(self, base, first, second):
        """The merged table, or the lowest place that clashes."""
        table = {}
        for place in range(2 ** self.depth):
            old, own, other = [self.tables[tree].get(place) for tree in (base, first, second)]
            if own == other or other == old:
                leaf = own
            elif own == old:
                leaf = other
            else:
                return place
            if leaf is not None:
                table[place] = leaf
        return table

    def fell(self, tree):
        own = self.parts(tree)
        del self.tables[tree]
        return len(own - self.all_parts())

    def leaves(self, tree):
        return [(place, *leaf) for place, leaf in sorted(self.tables[tree].items())]

    def sharers(self, tree, block):
        part = self.part(tree, block)
        return [other for other in sorted(self.tables) if part and self.part(other, block) == part]

    def differing(self, first, second):
        tables = self.tables[first], self.tables[second]
        return [place for place in range(2 ** self.depth) if tables[0].get(place) != tables[1].get(place)]


def state_of(forest):
    """All that a forest shows of its trees, but for the number of the next one."""
    trees = forest.trees()
    return [trees, [forest.leaves(tree) for tree in trees], [forest.parts(tree) for tree in trees],
            forest.part_count(), forest.made()]
