"""Points 3 and 16."""

import random
import unittest

from forkedshelves.blocks import least_cover
from forkedshelves.compare import agreeing_blocks, differing_places, looked
from forkedshelves.errors import NoTree
from forkedshelves.forest import Forest
from tests.flatforest import FlatForest, state_of
from tests.helpers import WatchedCase


def looked_by_force(flat, first, second, start, size):
    """The blocks at which a walk looks, by the words of the point."""
    if flat.part(first, (start, size)) == flat.part(second, (start, size)) or size == 1:
        return 1
    half = size // 2
    return 1 + sum(looked_by_force(flat, first, second, at, half) for at in (start, start + half))


class CompareTest(WatchedCase):
    def setUp(self):
        self.forest = Forest(3)
        self.tree = self.forest.plant([(0, 1, 1), (1, 1, 1), (6, 4, 2)])
        self.other = self.forest.write(self.tree, {1: 1, 5: 3, 6: 0}, 3)
        self.empty = self.forest.plant([])

    def test_two_trees(self):
        self.check([1, 5, 6], differing_places, self.forest, self.tree, self.other)
        self.check([(0, 1), (2, 2), (4, 1), (7, 1)], agreeing_blocks, self.forest, self.tree, self.other)
        # (0, 8), (0, 4), (0, 2), (0, 1), (1, 1), (2, 2), (4, 4), (4, 2), (4, 1), (5, 1), (6, 2), (6, 1), (7, 1)
        self.check(13, looked, self.forest, self.tree, self.other)

    def test_either_tree_may_be_the_first_one(self):
        self.check([1, 5, 6], differing_places, self.forest, self.other, self.tree)
        self.check([(0, 1), (2, 2), (4, 1), (7, 1)], agreeing_blocks, self.forest, self.other, self.tree)
        self.check(13, looked, self.forest, self.other, self.tree)

    def test_a_tree_with_itself(self):
        for tree in (self.tree, self.empty):
            self.check([], differing_places, self.forest, tree, tree)
            self.check([(0, 8)], agreeing_blocks, self.forest, tree, tree)
            self.check(1, looked, self.forest, tree, tree)

    def test_a_tree_without_leaves(self):
        self.check([0, 1, 6], differing_places, self.forest, self.tree, self.empty)
        self.check([(2, 2), (4, 2), (7, 1)], agreeing_blocks, self.forest, self.empty, self.tree)
        # (0, 8), (0, 4), (0, 2), (0, 1), (1, 1), (2, 2), (4, 4), (4, 2), (6, 2), (6, 1), (7, 1)
        self.check(11, looked, self.forest, self.tree, self.empty)
        other = self.forest.plant([])
        self.check([(0, 8)], agreeing_blocks, self.forest, other, self.empty)
        self.check(1, looked, self.forest, other, self.empty)

    def test_the_same_value_with_another_stamp_differs(self):
        again = self.forest.write(self.tree, {6: 4}, 9)
        self.check([6], differing_places, self.forest, self.tree, again)

    def test_depth_0(self):
        forest = Forest(0)
        forest.plant([])
        forest.plant([(0, 1, 1)])
        self.check([0], differing_places, forest, 1, 2)
        self.check([], agreeing_blocks, forest, 1, 2)
        self.check(1, looked, forest, 1, 2)
        self.check([(0, 1)], agreeing_blocks, forest, 2, 2)

    def test_one_difference_at_depth_8(self):
        forest = Forest(8)
        forest.plant([(place, 1, 1) for place in range(256)])
        forest.write(1, {255: 2}, 2)
        self.check([255], differing_places, forest, 1, 2)
        self.check(17, looked, forest, 1, 2)
        self.assertEqual(agreeing_blocks(forest, 1, 2), least_cover(8, list(range(255))))

    def test_missing_trees(self):
        before = state_of(self.forest)
        for function in (differing_places, agreeing_blocks, looked):
            for tree in (0, -1, 4, 10 ** 9):
                self.refuse(NoTree, {"tree": tree}, function, self.forest, tree, self.tree)
                self.refuse(NoTree, {"tree": tree}, function, self.forest, self.tree, tree)
                self.refuse(NoTree, {"tree": tree}, function, self.forest, tree, tree)
            self.refuse(NoTree, {"tree": 9}, function, self.forest, 9, 8)
            self.refuse(NoTree, {"tree": -8}, function, self.forest, -8, 9)
        self.assertEqual(state_of(self.forest), before)

    def test_felled_trees_are_missing(self):
        self.forest.fell(self.other)
        for function in (differing_places, agreeing_blocks, looked):
            self.refuse(NoTree, {"tree": self.other}, function, self.forest, self.tree, self.other)

    def test_random_trees(self):
        for seed in range(40):
            chance = random.Random(seed)
            depth = seed % 5
            forest, flat = Forest(depth), FlatForest(depth)
            leaves = [(place, 1, 1) for place in range(2 ** depth) if chance.random() < 0.6]
            forest.plant(leaves)
            flat.plant(leaves)
            writes = {place: chance.randint(0, 1) for place in range(2 ** depth) if chance.random() < 0.3}
            forest.write(1, writes, 2)
            flat.write(1, writes, 2)
            places = flat.differing(1, 2)
            self.assertEqual(differing_places(forest, 1, 2), places)
            same = [place for place in range(2 ** depth) if place not in places]
            self.assertEqual(agreeing_blocks(forest, 1, 2), least_cover(depth, same))
            self.assertEqual(looked(forest, 1, 2), looked_by_force(flat, 1, 2, 0, 2 ** depth))
            self.assertLessEqual(looked(forest, 1, 2), 1 + 2 * depth * len(places))


if __name__ == "__main__":
    unittest.main()
