"""Points 2, 3 and 73: trees of the nodes of a history."""

import random
import unittest

from forkedshelves.compare import agreeing_blocks
from forkedshelves.forest import Forest
from forkedshelves.history import History
from forkedshelves.pairs import Apart
from forkedshelves.rulebook import RuleBook
from forkedshelves.shelving import node_leaves, plant_node, shared_blocks
from tests.histories import HistoryCase, model_heads, random_history, snapshot


def model_leaves(history, node):
    return [(place, value, 1 + max(model_heads(history, [node], place)))
            for place, value in sorted(history.book(node).items())]


class NodeLeavesTest(HistoryCase):
    def setUp(self):
        self.history = History(RuleBook([("unlike", Apart([1, 2]))]), {1: 5, 7: 2})

    def test_the_start(self):
        self.check_on(self.history, [(1, 5, 1), (7, 2, 1)], node_leaves, 0)
        self.history = History(RuleBook([]), {})
        self.check_on(self.history, [], node_leaves, 0)

    def test_writes(self):
        self.history.write(0, {3: 3, 1: 6})
        self.history.write(1, {3: 0, 2: 9, 8: 0})
        self.check_on(self.history, [(1, 6, 2), (3, 3, 2), (7, 2, 1)], node_leaves, 1)
        self.check_on(self.history, [(1, 6, 2), (2, 9, 3), (7, 2, 1)], node_leaves, 2)

    def test_a_write_of_the_same_value_has_a_stamp_of_its_own(self):
        self.history.write(0, {1: 5})
        self.check_on(self.history, [(1, 5, 2), (7, 2, 1)], node_leaves, 1)

    def test_several_heads_with_one_value(self):
        for value in (4, 4, 4):
            self.history.write(0, {3: value})
        self.history.merge([3, 1, 2])
        self.history.merge([2, 1])
        self.check_on(self.history, [(1, 5, 1), (3, 4, 4), (7, 2, 1)], node_leaves, 4)
        self.check_on(self.history, [(1, 5, 1), (3, 4, 3), (7, 2, 1)], node_leaves, 5)

    def test_answers_have_the_stamp_of_the_merge(self):
        self.history.write(0, {3: 1})
        self.history.write(0, {3: 2})
        self.history.merge([1, 2], answers={3: 2, 7: 0, 9: 9})
        self.check_on(self.history, [(1, 5, 1), (3, 2, 4), (9, 9, 4)], node_leaves, 3)

    def test_missing_nodes(self):
        self.history.write(0, {3: 1})
        self.check_missing(self.history, node_leaves, 1)

    def test_random_histories(self):
        chance = random.Random(73)
        for _ in range(150):
            history = random_history(chance)
            for node in history:
                self.check_on(history, model_leaves(history, node), node_leaves, node)


class PlantNodeTest(HistoryCase):
    def setUp(self):
        self.history = History(RuleBook([]), {0: 5, 6: 1})
        self.history.write(0, {1: 4})
        self.history.write(0, {1: 4})

    def test_planting(self):
        forest = Forest(3)
        before = snapshot(self.history)
        self.assertEqual([plant_node(forest, self.history, node) for node in (1, 0, 1)], [1, 2, 3])
        self.assertEqual(snapshot(self.history), before)
        self.assertEqual([forest.leaves(tree) for tree in (1, 2)], [node_leaves(self.history, node) for node in (1, 0)])
        self.assertEqual([forest.book(2), forest.trees()], [{0: 5, 6: 1}, [1, 2, 3]])

    def test_equal_parts_are_shared(self):
        forest = Forest(3)
        for node in (0, 1, 2):
            plant_node(forest, self.history, node)
        self.assertEqual(forest.sharers(1, 4, 4), [1, 2, 3])
        self.assertEqual(forest.sharers(2, 0, 1), [1, 2, 3])
        self.assertEqual([forest.sharers(2, 0, 2), forest.sharers(2, 1, 1), forest.sharers(1, 1, 1)], [[2], [2], []])

    def test_a_refused_node_changes_nothing(self):
        forest = Forest(3)
        plant_node(forest, self.history, 1)
        self.check_missing(self.history, lambda history, node: plant_node(forest, history, node), 1)
        self.assertEqual([forest.trees(), forest.made()], [[1], forest.part_count()])

    def test_nodes_share_a_part_exactly_if_their_largest_heads_are_the_same(self):
        chance = random.Random(731)
        shared = [0, 0]
        for _ in range(60):
            history = random_history(chance)
            forest = Forest(3)
            trees = {node: plant_node(forest, history, node) for node in history}
            for first in history:
                for second in history:
                    for start, size in forest.parts(trees[first]):
                        heads = [[(place, max(model_heads(history, [node], place)))
                                  for place in range(start, start + size) if place in history.book(node)]
                                 for node in (first, second)]
                        same = trees[second] in forest.sharers(trees[first], start, size)
                        self.assertEqual(same, heads[0] == heads[1])
                        shared[same] += first != second
        self.assertGreater(min(shared), 100)


class SharedBlocksTest(HistoryCase):
    def setUp(self):
        self.history = History(RuleBook([]), {0: 5, 6: 1})
        self.history.write(0, {1: 4})
        self.history.write(0, {1: 4})

    def check_blocks(self, expected, depth, first, second):
        self.check_on(self.history, expected, lambda history: shared_blocks(history, depth, first, second))

    def test_shared_blocks(self):
        self.check_blocks([(0, 8)], 3, 1, 1)
        self.check_blocks([(0, 1), (2, 2), (4, 4)], 3, 1, 2)
        self.check_blocks([(0, 1), (2, 2), (4, 4), (8, 8)], 4, 0, 2)

    def test_depth_0(self):
        self.history = History(RuleBook([]), {})
        self.history.write(0, {0: 1})
        self.history.write(0, {0: 1})
        self.check_blocks([], 0, 0, 1)
        self.check_blocks([], 0, 1, 2)
        self.check_blocks([(0, 1)], 0, 2, 2)

    def test_missing_nodes_in_order(self):
        self.check_missing(self.history, lambda history, one, other: shared_blocks(history, 3, one, other), 0, 1)

    def test_random_histories(self):
        chance = random.Random(732)
        for _ in range(60):
            self.history = random_history(chance)
            first, second = chance.choice(list(self.history)), chance.choice(list(self.history))
            forest = Forest(3)
            trees = [plant_node(forest, self.history, node) for node in (first, second)]
            self.check_blocks(agreeing_blocks(forest, *trees), 3, first, second)


if __name__ == "__main__":
    unittest.main()
