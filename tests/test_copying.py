"""Points 3, 17 and 18."""

import random
import unittest
from itertools import permutations

from forkedshelves.copying import expected_copies, plan_copies
from forkedshelves.errors import NoTree, TreeClash
from forkedshelves.forest import Forest
from tests.flatforest import FlatForest, state_of
from tests.helpers import WatchedCase


def forest_of_forks(depth, groups, leaves=()):
    """A forest with a base, tree 1, and one fork for each group of places."""
    forest = Forest(depth)
    base = forest.plant(list(leaves))
    for number, places in enumerate(groups):
        forest.write(base, {place: 5 + number for place in places}, 100 + number)
    return forest


def random_plan(trees, chance):
    """A plan with each of the trees once."""
    if len(trees) == 1:
        return trees[0]
    cut = chance.randint(1, len(trees) - 1)
    return random_plan(trees[:cut], chance), random_plan(trees[cut:], chance)


class PlanCopiesTest(WatchedCase):
    def test_the_example_of_the_document(self):
        forest = forest_of_forks(2, [[0], [1], [3]])
        self.assertEqual(self.call(plan_copies, forest, 1, (2, (3, 4))), (6, 3))
        self.check([(0, 1), (0, 2), (0, 4), (1, 1), (2, 2), (3, 1)], forest.parts, 6)

    def test_a_plan_of_one_tree(self):
        forest = forest_of_forks(2, [[0], [1]])
        before = state_of(forest)
        for tree in (1, 2, 3):
            self.check((tree, 0), plan_copies, forest, 1, tree)
        self.assertEqual(state_of(forest), before)
        self.assertEqual(forest.plant([]), 4)

    def test_trees_made_on_the_way_stay(self):
        forest = forest_of_forks(3, [[0], [2], [7]])
        made = forest.made()
        tree, copies = plan_copies(forest, 1, ((2, 3), 4))
        self.assertEqual(tree, 6)
        self.assertEqual(forest.made() - made, copies)
        self.check([1, 2, 3, 4, 5, 6], forest.trees)
        self.check({0: 5, 2: 6}, forest.book, 5)
        self.check({0: 5, 2: 6, 7: 7}, forest.book, 6)

    def test_the_order_in_which_the_merges_are_made(self):
        forest = forest_of_forks(3, [[0], [1], [2], [3], [4]])
        self.assertEqual(plan_copies(forest, 1, (((2, 3), (4, 5)), (6, (2, 4))))[0], 12)
        books = [sorted(forest.book(tree)) for tree in range(7, 13)]
        self.assertEqual(books, [[0, 1], [2, 3], [0, 1, 2, 3], [0, 2], [0, 2, 4], [0, 1, 2, 3, 4]])

    def test_a_chain(self):
        groups = [[place] for place in range(8)]
        forest = forest_of_forks(3, groups)
        plan = 2
        for tree in range(3, 10):
            plan = (plan, tree)
        self.assertEqual(plan_copies(forest, 1, plan), (16, expected_copies(3, groups)))
        self.check({place: 5 + place for place in range(8)}, forest.book, 16)

    def test_a_tree_that_stands_twice(self):
        forest = forest_of_forks(2, [[0], [3]])
        self.assertEqual(plan_copies(forest, 1, (2, 2)), (4, 0))
        self.check([2, 4], forest.sharers, 4, 0, 4)
        self.assertEqual(plan_copies(forest, 1, ((2, 3), (3, 2))), (7, 1))
        self.assertEqual(plan_copies(forest, 1, (2, (3, 2))), (9, 0))

    def test_the_base_may_stand_in_the_plan(self):
        forest = forest_of_forks(2, [[0]], [(3, 9, 1)])
        self.assertEqual(plan_copies(forest, 1, (1, 2)), (3, 0))
        self.check({0: 5, 3: 9}, forest.book, 3)

    def test_merges_go_over_the_base_that_is_passed(self):
        forest = Forest(1)
        forest.plant([(0, 1, 1)])
        forest.plant([])
        forest.write(1, {0: 2}, 2)
        self.assertEqual(plan_copies(forest, 1, (3, 1)), (4, 0))
        self.check({0: 2}, forest.book, 4)
        self.refuse(TreeClash, {"place": 0}, plan_copies, forest, 2, (3, 1))

    def test_copies_are_the_parts_of_all_merges(self):
        forest = forest_of_forks(2, [[0], [1], [3]])
        # (2, 3) makes (0, 2) and (0, 4), and the next merge (0, 4) again.
        self.assertEqual(plan_copies(forest, 1, ((2, 3), 4)), (6, 3))
        self.assertEqual(plan_copies(forest, 1, ((2, 3), 4)), (8, 0))


class RefusedPlanTest(WatchedCase):
    def setUp(self):
        self.forest = forest_of_forks(2, [[0], [1], [0, 2], [1, 2]])
        self.before = state_of(self.forest)

    def refuse_plan(self, error, fields, base, plan):
        self.refuse(error, fields, plan_copies, self.forest, base, plan)
        self.assertEqual(state_of(self.forest), self.before)

    def test_missing_trees(self):
        for tree in (0, -1, 6, 10 ** 9):
            self.refuse_plan(NoTree, {"tree": tree}, tree, 1)
            self.refuse_plan(NoTree, {"tree": tree}, tree, (2, 3))
            self.refuse_plan(NoTree, {"tree": tree}, 1, tree)
            self.refuse_plan(NoTree, {"tree": tree}, 1, ((2, 3), (tree, 1)))
        self.assertEqual(self.forest.plant([]), 6)

    def test_the_base_comes_first_and_then_the_plan_from_left_to_right(self):
        self.refuse_plan(NoTree, {"tree": 9}, 9, (8, 7))
        self.refuse_plan(NoTree, {"tree": 8}, 1, ((2, 8), (7, 9)))
        self.refuse_plan(NoTree, {"tree": 7}, 1, (7, 6))
        self.refuse_plan(NoTree, {"tree": 7}, 1, (2, (3, (2, 7))))

    def test_missing_trees_come_before_clashes(self):
        self.refuse_plan(NoTree, {"tree": 9}, 1, ((2, 4), 9))

    def test_a_clash_leaves_nothing_behind(self):
        self.refuse_plan(TreeClash, {"place": 0}, 1, (2, 4))
        self.refuse_plan(TreeClash, {"place": 0}, 1, ((2, 3), 4))
        self.refuse_plan(TreeClash, {"place": 2}, 1, (4, 5))
        self.assertEqual(self.forest.plant([]), 6)
        self.check(self.before[-1], self.forest.made)

    def test_the_clash_of_the_first_merge_that_cannot_be_made(self):
        self.refuse_plan(TreeClash, {"place": 2}, 1, ((4, 5), (2, 4)))
        self.refuse_plan(TreeClash, {"place": 0}, 1, ((2, 4), (4, 5)))
        self.refuse_plan(TreeClash, {"place": 1}, 1, ((2, 3), (3, 5)))
        self.refuse_plan(TreeClash, {"place": 2}, 1, (3, ((2, 3), (5, 4))))

    def test_a_felled_tree_is_missing(self):
        self.forest.fell(3)
        self.before = state_of(self.forest)
        self.refuse_plan(NoTree, {"tree": 3}, 1, (2, 3))


class ExpectedCopiesTest(WatchedCase):
    def test_the_example_of_the_document(self):
        self.check(3, expected_copies, 2, [[0], [1], [3]])

    def test_no_groups_and_one_group(self):
        self.check(0, expected_copies, 3, [])
        self.check(0, expected_copies, 3, [[0, 1, 7]])

    def test_groups_without_places(self):
        self.check(0, expected_copies, 3, [[], []])
        self.check(0, expected_copies, 3, [[], [4], []])
        self.check(1, expected_copies, 3, [[], [4], [0], []])

    def test_duplicates_count_once(self):
        self.check(1, expected_copies, 3, [[4, 4, 5], [0, 0]])
        self.check(0, expected_copies, 3, [[4, 4, 4]])

    def test_places_in_common(self):
        self.check(4, expected_copies, 3, [[4], [4]])
        self.check(8, expected_copies, 3, [[4], [4], [4]])
        # (4, 1) and (4, 2) with two of them, (4, 4) and (0, 8) with three
        self.check(1 + 1 + 2 + 2, expected_copies, 3, [[4, 0], [4], [6]])

    def test_depth_0_and_depth_8(self):
        self.check(0, expected_copies, 0, [[0]])
        self.check(2, expected_copies, 0, [[0], [0], [0]])
        self.check(1, expected_copies, 8, [[0], [255]])
        self.check(8, expected_copies, 8, [[254], [255]])


class AllOrdersTest(unittest.TestCase):
    """Any plan with each fork once copies what is expected."""

    def test_all_orders_of_four_forks(self):
        groups = [[0, 5], [1], [4, 7], [2, 3]]
        expected = expected_copies(3, groups)
        for order in permutations([2, 3, 4, 5]):
            a, b, c, d = order
            for plan in [(((a, b), c), d), ((a, b), (c, d)), (a, (b, (c, d))), ((a, (b, c)), d), (a, ((b, c), d))]:
                forest = forest_of_forks(3, groups, [(0, 1, 1), (6, 2, 2)])
                tree, copies = plan_copies(forest, 1, plan)
                self.assertEqual((tree, copies), (8, expected))

    def test_random_forks_and_plans(self):
        chance = random.Random(18)
        for _ in range(60):
            depth = chance.randint(2, 8)
            places = list(range(2 ** depth))
            leaves = [(place, 3, 1) for place in chance.sample(places, len(places) // 3)]
            chance.shuffle(places)
            many = chance.randint(2, min(len(places), 12))
            groups = [places[number::many][:10] for number in range(many)]
            forest = forest_of_forks(depth, groups, leaves)
            trees = list(range(2, 2 + many))
            chance.shuffle(trees)
            tree, copies = plan_copies(forest, 1, random_plan(trees, chance))
            self.assertEqual((tree, copies), (2 * many, expected_copies(depth, groups)))
            book = {place: 3 for place, _, _ in leaves}
            book.update({place: 5 + number for number, group in enumerate(groups) for place in group})
            self.assertEqual(forest.book(tree), book)

    def test_any_plan_makes_what_its_merges_make_one_by_one(self):
        for seed in range(30):
            chance = random.Random(seed)
            forest, flat = Forest(3), FlatForest(3)
            self.assertEqual(forest.plant([(0, 1, 1), (5, 1, 1)]), flat.plant([(0, 1, 1), (5, 1, 1)]))
            for stamp in range(2, 7):
                writes = {chance.randint(0, 7): chance.randint(0, 1)}
                self.assertEqual(forest.write(1, writes, stamp), flat.write(1, writes, stamp))
            plan = random_plan([chance.randint(1, 6) for _ in range(4)], chance)
            made = flat.made
            tree = self.play(flat, plan)
            if isinstance(tree, str):
                with self.assertRaises(TreeClash) as caught:
                    plan_copies(forest, 1, plan)
                self.assertEqual(f"clash {caught.exception.place}", tree)
            else:
                self.assertEqual(plan_copies(forest, 1, plan), (tree, flat.made - made))
                self.assertEqual([forest.leaves(tree) for tree in forest.trees()],
                                 [flat.leaves(tree) for tree in sorted(flat.tables)])

    def play(self, flat, plan):
        """The last tree of a plan, or a word about the first clash."""
        if isinstance(plan, int):
            return plan
        first = self.play(flat, plan[0])
        second = first if isinstance(first, str) else self.play(flat, plan[1])
        if isinstance(second, str):
            return second
        merged = flat.merged(1, first, second)
        return f"clash {merged}" if isinstance(merged, int) else flat.add(merged)

    def test_a_plan_that_is_nested_deeply(self):
        groups = [[place] for place in range(40)]
        forest = forest_of_forks(6, groups)
        plan = 41
        for tree in range(40, 1, -1):
            plan = (tree, plan)
        self.assertEqual(plan_copies(forest, 1, plan), (80, expected_copies(6, groups)))


if __name__ == "__main__":
    unittest.main()
