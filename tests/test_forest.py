"""Points 2, 3, 14 and 15."""

import random
import unittest

from forkedshelves.errors import NoTree, TreeClash
from forkedshelves.forest import Forest
from tests.flatforest import FlatForest, state_of
from tests.helpers import WatchedCase


class PlantTest(WatchedCase):
    def test_trees_are_numbered_in_the_order_in_which_they_are_made(self):
        forest = Forest(2)
        self.check([], forest.trees)
        self.assertEqual([forest.plant([]), forest.plant([(1, 5, 1)]), forest.write(1, {2: 1}, 2)], [1, 2, 3])
        self.assertEqual(forest.merge(1, 2, 3), 4)
        self.check([1, 2, 3, 4], forest.trees)

    def test_leaves_book_and_parts(self):
        forest = Forest(3)
        tree = self.call(forest.plant, [(6, 9, 4), (0, 5, 2), (1, 7, 2)])
        self.check([(0, 5, 2), (1, 7, 2), (6, 9, 4)], forest.leaves, tree)
        self.check({0: 5, 1: 7, 6: 9}, forest.book, tree)
        self.check([(0, 1), (0, 2), (0, 4), (0, 8), (1, 1), (4, 4), (6, 1), (6, 2)], forest.parts, tree)
        self.check(8, forest.part_count)
        self.check(8, forest.made)

    def test_a_tree_without_leaves(self):
        forest = Forest(3)
        tree = forest.plant([])
        self.check([], forest.leaves, tree)
        self.check({}, forest.book, tree)
        self.check([], forest.parts, tree)
        self.check([], forest.sharers, tree, 0, 8)
        self.check(0, forest.part_count)
        self.check(0, forest.made)
        self.assertEqual(forest.fell(tree), 0)

    def test_depth_0(self):
        forest = Forest(0)
        tree = forest.plant([(0, 3, 1)])
        self.check([(0, 1)], forest.parts, tree)
        self.check(1, forest.made)
        self.assertEqual(forest.leaves(forest.write(tree, {0: 0}, 2)), [])
        self.check([tree], forest.sharers, tree, 0, 1)

    def test_depth_8_and_a_full_tree(self):
        forest = Forest(8)
        tree = forest.plant([(place, 1, 1) for place in range(256)])
        self.check(511, forest.part_count)
        forest.write(tree, {255: 2}, 2)
        self.check(520, forest.made)
        self.check([(0, 1, 1), (255, 2, 2)], lambda: [forest.leaves(2)[0], forest.leaves(2)[-1]])

    def test_equal_leaves_planted_twice_are_kept_once(self):
        forest = Forest(2)
        leaves = [(1, 5, 1), (2, 6, 3)]
        first = forest.plant(leaves)
        second = forest.plant(list(reversed(leaves)))
        self.assertEqual((first, second), (1, 2))
        self.check(5, forest.made)
        self.check(5, forest.part_count)
        self.check([1, 2], forest.sharers, 1, 0, 4)

    def test_the_same_value_with_another_stamp_is_another_part(self):
        forest = Forest(1)
        forest.plant([(0, 5, 1)])
        forest.plant([(0, 5, 2)])
        self.check(4, forest.part_count)
        self.check([1], forest.sharers, 1, 0, 1)

    def test_the_same_stamp_at_other_places_is_another_part(self):
        forest = Forest(1)
        forest.plant([(0, 5, 1), (1, 5, 1)])
        forest.plant([(1, 5, 1)])
        self.check([1, 2], forest.sharers, 1, 1, 1)
        self.check([1], forest.sharers, 1, 0, 2)
        self.check(4, forest.part_count)

    def test_what_is_passed_may_change_later(self):
        forest = Forest(1)
        leaves, writes = [(0, 5, 1)], {1: 6}
        forest.plant(leaves)
        forest.write(1, writes, 2)
        leaves.append((1, 8, 3))
        writes[1] = 9
        self.check([(0, 5, 1)], forest.leaves, 1)
        self.check([(0, 5, 1), (1, 6, 2)], forest.leaves, 2)


class WriteTest(WatchedCase):
    def setUp(self):
        self.forest = Forest(3)
        self.forest.plant([(0, 5, 1), (4, 6, 2)])

    def test_a_write_makes_one_part_for_each_block_with_a_written_place(self):
        self.assertEqual(self.call(self.forest.write, 1, {1: 7, 2: 8}, 3), 2)
        self.check([(0, 5, 1), (1, 7, 3), (2, 8, 3), (4, 6, 2)], self.forest.leaves, 2)
        # (1, 1), (0, 2), (2, 1), (2, 2), (0, 4) and (0, 8)
        self.check(7 + 6, self.forest.made)

    def test_a_write_over_a_leaf(self):
        self.forest.write(1, {4: 6}, 3)
        self.check([(0, 5, 1), (4, 6, 3)], self.forest.leaves, 2)
        self.check(7 + 4, self.forest.made)
        self.check([(0, 5, 1), (4, 6, 2)], self.forest.leaves, 1)

    def test_a_write_of_no_place(self):
        self.assertEqual(self.call(self.forest.write, 1, {}, 3), 2)
        self.check(self.forest.leaves(1), self.forest.leaves, 2)
        self.check(7, self.forest.made)
        self.check([1, 2], self.forest.sharers, 2, 0, 8)

    def test_a_write_of_0_at_a_place_with_a_leaf(self):
        self.assertEqual(self.call(self.forest.write, 1, {4: 0}, 3), 2)
        self.check([(0, 5, 1)], self.forest.leaves, 2)
        self.check([(0, 1), (0, 2), (0, 4), (0, 8)], self.forest.parts, 2)
        self.check(7 + 1, self.forest.made)

    def test_a_write_of_0_at_a_place_without_a_leaf(self):
        self.forest.write(1, {7: 0}, 3)
        self.check(self.forest.leaves(1), self.forest.leaves, 2)
        self.check(7, self.forest.made)

    def test_a_write_of_0_everywhere(self):
        self.forest.write(1, {0: 0, 4: 0, 5: 0}, 3)
        self.check([], self.forest.leaves, 2)
        self.check([], self.forest.parts, 2)
        self.check(7, self.forest.made)

    def test_a_write_of_0_may_lead_to_a_part_that_another_tree_has(self):
        self.forest.write(1, {1: 7}, 3)
        made = self.forest.made()
        self.forest.write(2, {1: 0}, 4)
        self.check(made, self.forest.made)
        self.check([1, 3], self.forest.sharers, 1, 0, 8)

    def test_values_and_zeros_in_one_write(self):
        self.forest.write(1, {0: 0, 1: 9, 4: 8}, 3)
        self.check([(1, 9, 3), (4, 8, 3)], self.forest.leaves, 2)


class MergeTest(WatchedCase):
    def test_each_place_by_its_stamps(self):
        forest = Forest(3)
        base = forest.plant([(0, 1, 1), (1, 1, 1), (2, 1, 1), (3, 1, 1), (4, 1, 1)])
        first = forest.write(base, {0: 2, 3: 0, 5: 3}, 2)
        second = forest.write(base, {1: 4, 4: 0, 6: 5}, 3)
        self.assertEqual(self.call(forest.merge, base, first, second), 4)
        expected = [(0, 2, 2), (1, 4, 3), (2, 1, 1), (5, 3, 2), (6, 5, 3)]
        self.check(expected, forest.leaves, 4)
        self.assertEqual(forest.leaves(forest.merge(base, second, first)), expected)

    def test_both_emptied_or_both_with_the_same_leaf(self):
        forest = Forest(1)
        base = forest.plant([(0, 1, 1)])
        first = forest.plant([(1, 2, 5)])
        second = forest.plant([(1, 2, 5)])
        self.assertEqual(forest.leaves(forest.merge(base, first, second)), [(1, 2, 5)])

    def test_stamps_and_not_values_are_compared(self):
        forest = Forest(0)
        base = forest.plant([])
        first, second = forest.write(base, {0: 5}, 1), forest.write(base, {0: 5}, 2)
        self.refuse(TreeClash, {"place": 0}, forest.merge, base, first, second)
        base = forest.plant([(0, 5, 3)])
        first, second = forest.write(base, {0: 5}, 4), forest.write(base, {0: 6}, 5)
        self.refuse(TreeClash, {"place": 0}, forest.merge, base, first, second)
        self.assertEqual(forest.leaves(forest.merge(base, first, base)), [(0, 5, 4)])
        self.assertEqual(forest.leaves(forest.merge(base, base, first)), [(0, 5, 4)])

    def test_a_clash_of_an_emptied_place(self):
        forest = Forest(1)
        base = forest.plant([(1, 5, 1)])
        first, second = forest.write(base, {1: 0}, 2), forest.write(base, {1: 6}, 3)
        self.refuse(TreeClash, {"place": 1}, forest.merge, base, first, second)
        self.refuse(TreeClash, {"place": 1}, forest.merge, base, second, first)

    def test_the_lowest_clash_and_that_nothing_changes(self):
        forest = Forest(3)
        base = forest.plant([])
        first = forest.write(base, {0: 1, 7: 1, 3: 1, 6: 2}, 1)
        second = forest.write(base, {1: 1, 6: 1, 3: 1, 5: 1}, 2)
        before = state_of(forest)
        self.refuse(TreeClash, {"place": 3}, forest.merge, base, first, second)
        self.assertEqual(state_of(forest), before)
        self.assertEqual(forest.plant([]), 4)

    def test_the_lowest_clash_of_places_that_are_far_apart(self):
        forest = Forest(8)
        base = forest.plant([])
        for number, places in enumerate([[64, 9, 200], [255, 8, 33], [128, 17]]):
            writes = {place: 1 for place in places}
            first, second = [forest.write(base, writes, 10 * number + stamp) for stamp in (1, 2)]
            self.refuse(TreeClash, {"place": min(places)}, forest.merge, base, first, second)

    def test_all_three_cases_over_an_unrelated_base(self):
        flat = FlatForest(1)
        forest = Forest(1)
        leaves = [[], [(0, 1, 1)], [(0, 2, 2)], [(0, 3, 3), (1, 3, 3)], [(1, 3, 3)], [(1, 4, 4), (0, 1, 1)]]
        for table in leaves:
            self.assertEqual(flat.plant(table), forest.plant(table))
        for base in range(1, 7):
            for first in range(1, 7):
                for second in range(1, 7):
                    expected = flat.merged(base, first, second)
                    if isinstance(expected, int):
                        self.refuse(TreeClash, {"place": expected}, forest.merge, base, first, second)
                    else:
                        merged = forest.merge(base, first, second)
                        self.assertEqual(forest.book(merged), {at: leaf[0] for at, leaf in expected.items()})

    def test_merging_equal_trees_makes_nothing(self):
        forest = Forest(2)
        tree = forest.plant([(0, 1, 1), (3, 2, 1)])
        made = forest.made()
        self.assertEqual(forest.merge(tree, tree, tree), 2)
        self.check(made, forest.made)
        self.check([1, 2], forest.sharers, 2, 0, 4)


class FellTest(WatchedCase):
    def test_fell_returns_the_parts_that_no_other_tree_has(self):
        forest = Forest(2)
        forest.plant([(0, 1, 1), (3, 2, 2)])
        forest.write(1, {0: 4}, 3)
        self.assertEqual(self.call(forest.fell, 1), 3)
        self.check([2], forest.trees)
        self.check(5, forest.part_count)
        self.check([2], forest.sharers, 2, 3, 1)
        self.assertEqual(forest.fell(2), 5)
        self.check([], forest.trees)
        self.check(0, forest.part_count)

    def test_fell_of_one_of_two_equal_trees(self):
        forest = Forest(2)
        forest.plant([(0, 1, 1)])
        forest.plant([(0, 1, 1)])
        self.assertEqual(forest.fell(1), 0)
        self.check(3, forest.part_count)
        self.assertEqual(forest.fell(2), 3)

    def test_numbers_are_not_used_twice(self):
        forest = Forest(1)
        forest.plant([])
        forest.plant([])
        forest.fell(2)
        self.assertEqual(forest.plant([]), 3)
        forest.fell(1)
        forest.fell(3)
        self.assertEqual(forest.plant([]), 4)
        self.check([4], forest.trees)

    def test_a_part_that_only_felled_trees_had_is_made_again(self):
        forest = Forest(1)
        forest.plant([(0, 1, 1), (1, 2, 2)])
        forest.plant([(1, 2, 2)])
        self.check(4, forest.made)
        forest.fell(1)
        forest.plant([(0, 1, 1), (1, 2, 2)])
        self.check(6, forest.made)
        self.check(4, forest.part_count)
        self.check([2, 3], forest.sharers, 3, 1, 1)

    def test_made_does_not_go_back(self):
        forest = Forest(1)
        forest.plant([(0, 1, 1)])
        forest.fell(1)
        self.check(2, forest.made)
        self.check(0, forest.part_count)

    def test_other_trees_stay_as_they_are(self):
        forest = Forest(3)
        forest.plant([(0, 1, 1), (5, 2, 1)])
        forest.write(1, {5: 9}, 2)
        leaves, parts = forest.leaves(2), forest.parts(2)
        forest.fell(1)
        self.check(leaves, forest.leaves, 2)
        self.check(parts, forest.parts, 2)


class SharersTest(WatchedCase):
    def test_sharers_of_a_block(self):
        forest = Forest(2)
        forest.plant([(0, 1, 1), (3, 2, 2)])
        forest.write(1, {0: 4}, 3)
        forest.write(1, {3: 0}, 4)
        self.check([1, 2], forest.sharers, 1, 3, 1)
        self.check([1, 2], forest.sharers, 2, 2, 2)
        self.check([1, 3], forest.sharers, 3, 0, 2)
        self.check([2], forest.sharers, 2, 0, 1)
        self.check([1], forest.sharers, 1, 0, 4)

    def test_no_part_at_the_block(self):
        forest = Forest(2)
        forest.plant([(0, 1, 1)])
        forest.plant([])
        self.check([], forest.sharers, 1, 2, 2)
        self.check([], forest.sharers, 1, 1, 1)
        self.check([], forest.sharers, 2, 0, 4)


class NoTreeTest(WatchedCase):
    def setUp(self):
        self.forest = Forest(2)
        self.forest.plant([(0, 1, 1)])
        self.forest.plant([])
        self.forest.fell(2)

    def check_missing(self, tree, function, *args):
        before = state_of(self.forest)
        self.refuse(NoTree, {"tree": tree}, function, *args)
        self.assertEqual(state_of(self.forest), before)

    def test_every_method_with_any_integer(self):
        for tree in (0, -1, -7, 2, 3, 10 ** 9):
            for method in (self.forest.leaves, self.forest.book, self.forest.parts, self.forest.fell):
                self.check_missing(tree, method, tree)
            self.check_missing(tree, self.forest.write, tree, {0: 1}, 5)
            self.check_missing(tree, self.forest.write, tree, {}, 5)
            self.check_missing(tree, self.forest.sharers, tree, 0, 4)
            self.check_missing(tree, self.forest.merge, tree, 1, 1)
            self.check_missing(tree, self.forest.merge, 1, tree, 1)
            self.check_missing(tree, self.forest.merge, 1, 1, tree)
        self.assertEqual(self.forest.plant([]), 3)

    def test_merge_names_the_first_missing_tree(self):
        self.check_missing(9, self.forest.merge, 9, 8, 7)
        self.check_missing(8, self.forest.merge, 1, 8, 7)
        self.check_missing(7, self.forest.merge, 1, 1, 7)
        self.check_missing(-4, self.forest.merge, -4, 1, 0)


class ForestByForceTest(unittest.TestCase):
    """Random deeds in a forest and in a flat one."""

    def check_equal(self, forest, flat):
        trees = sorted(flat.tables)
        self.assertEqual(forest.trees(), trees)
        self.assertEqual(forest.part_count(), len(flat.all_parts()))
        self.assertEqual(forest.made(), flat.made)
        for tree in trees:
            self.assertEqual(forest.leaves(tree), flat.leaves(tree))
            self.assertEqual(forest.book(tree), {place: leaf[0] for place, leaf in flat.tables[tree].items()})
            self.assertEqual(forest.parts(tree), sorted(block for block, _ in flat.parts(tree)))
            for start, size in flat.blocks():
                self.assertEqual(forest.sharers(tree, start, size), flat.sharers(tree, (start, size)))

    def do_deed(self, forest, flat, chance, stamp):
        trees = sorted(flat.tables)
        words = ["plant", "write", "write", "write", "merge", "merge", "merge", "fell"]
        word = chance.choice(words) if trees else "plant"
        if word == "plant":
            # Stamps of leaves that are planted again belong to their place and value.
            leaves = [(place, place + 1, 1000 + place) for place in range(2 ** flat.depth) if chance.random() < 0.4]
            chance.shuffle(leaves)
            self.assertEqual(forest.plant(leaves), flat.plant(leaves))
        elif word == "write":
            places = chance.sample(range(2 ** flat.depth), chance.randint(0, 2 ** flat.depth // 2))
            writes = {place: chance.randint(0, 2) for place in places}
            tree = chance.choice(trees)
            self.assertEqual(forest.write(tree, writes, stamp), flat.write(tree, writes, stamp))
        elif word == "merge":
            base, first, second = [chance.choice(trees) for _ in range(3)]
            merged = flat.merged(base, first, second)
            if isinstance(merged, int):
                with self.assertRaises(TreeClash) as caught:
                    forest.merge(base, first, second)
                self.assertEqual(caught.exception.place, merged)
            else:
                self.assertEqual(forest.merge(base, first, second), flat.add(merged))
        elif len(trees) > 2:
            tree = chance.choice(trees)
            self.assertEqual(forest.fell(tree), flat.fell(tree))

    def test_random_deeds(self):
        for seed in range(12):
            chance = random.Random(seed)
            depth = seed % 4
            forest, flat = Forest(depth), FlatForest(depth)
            for stamp in range(1, 26):
                self.do_deed(forest, flat, chance, stamp)
                self.check_equal(forest, flat)

    def test_a_write_of_values_makes_one_part_for_each_block_with_a_written_place(self):
        chance = random.Random(15)
        forest = Forest(8)
        tree = forest.plant([(place, 1, 1) for place in chance.sample(range(256), 60)])
        for stamp in range(2, 60):
            places = chance.sample(range(256), 10)
            made = forest.made()
            tree = forest.write(tree, {place: 3 for place in places}, stamp)
            blocks = {(place >> power, power) for place in places for power in range(9)}
            self.assertEqual(forest.made() - made, len(blocks))


if __name__ == "__main__":
    unittest.main()
