"""Points 3 and 52: plans."""

import random
import unittest

from forkedshelves.errors import NoNode, PlanClash
from forkedshelves.heads import clash_of, merged_book
from forkedshelves.history import History
from forkedshelves.orders import least_clash
from forkedshelves.pairs import Apart
from forkedshelves.plans import plan_nodes, play_plan
from forkedshelves.rulebook import RuleBook
from tests.histories import HistoryCase, random_history


def random_plan(chance, nodes):
    """A plan with each of some nodes once."""
    nodes = chance.sample(nodes, len(nodes))
    if len(nodes) == 1:
        return nodes[0]
    cut = chance.randint(1, len(nodes) - 1)
    return random_plan(chance, nodes[:cut]), random_plan(chance, nodes[cut:])


def pairs_of(plan):
    """The pairs of a plan in the order in which they are merged."""
    if isinstance(plan, int):
        return []
    return pairs_of(plan[0]) + pairs_of(plan[1]) + [plan]


class PlanNodesTest(HistoryCase):
    def test_nodes_from_left_to_right(self):
        self.check([5], plan_nodes, 5)
        self.check([2, 1], plan_nodes, (2, 1))
        self.check([3, 1, 2, 3, 0], plan_nodes, ((3, (1, 2)), (3, 0)))
        self.check([0, 0], plan_nodes, (0, 0))
        # It is passed no history, so that any numbers will do.
        self.check([-4, 1000], plan_nodes, (-4, 1000))

    def test_forty_nodes_and_a_deep_plan(self):
        left, right = 0, 0
        for node in range(1, 60):
            left, right = (left, node), (node, right)
        self.check(list(range(60)), plan_nodes, left)
        self.check(list(range(59, -1, -1)), plan_nodes, right)


class PlayPlanTest(HistoryCase):
    def setUp(self):
        self.history = History(RuleBook([("unlike", Apart([1, 2]))]), {3: 3})
        for writes in ({1: 4}, {2: 4}, {2: 5}, {9: 9}):
            self.history.write(0, writes)

    def test_one_node(self):
        self.check_on(self.history, {3: 3}, play_plan, 0)
        self.check_on(self.history, {2: 4, 3: 3}, play_plan, 2)

    def test_merges(self):
        self.check_on(self.history, {1: 4, 2: 5, 3: 3}, play_plan, (1, 3))
        self.check_on(self.history, {1: 4, 2: 5, 3: 3, 9: 9}, play_plan, ((4, 1), (3, (0, 4))))

    def test_a_node_that_stands_twice(self):
        self.check_on(self.history, {1: 4, 3: 3}, play_plan, (1, 1))
        self.check_on(self.history, {1: 4, 3: 3, 9: 9}, play_plan, ((1, 4), (4, (1, 1))))

    def test_no_node_is_made(self):
        play_plan(self.history, ((1, 3), (4, 0)))
        self.assertEqual(self.history.node_count(), 5)

    def test_the_first_merge_that_is_not_clean(self):
        for plan, nodes in (((1, 2), [1, 2]), (((4, 1), (0, 2)), [4, 1, 0, 2]), ((0, (4, (2, (1, 2)))), [1, 2]),
                            ((((1, 2), 4), (2, 3)), [1, 2]), (((1, 4), (2, 3)), [2, 3]),
                            (((1, 1), (1, 2)), [1, 2]), ((((3, 1), 1), (0, (2, 2))), [3, 1, 1, 0, 2, 2]),
                            (((1, 3), ((4, 2), 1)), [4, 2, 1])):
            self.refuse_on(self.history, PlanClash, {"nodes": nodes}, play_plan, self.history, plan)

    def test_a_merge_that_only_a_later_one_would_make_good(self):
        history = self.history
        history.write(0, {9: 8})
        answered = history.merge([4, 5], answers={9: 1})
        self.refuse_on(history, PlanClash, {"nodes": [4, 5]}, play_plan, history, ((4, 5), answered))
        self.check_on(history, {3: 3, 9: 1}, play_plan, (4, (5, answered)))

    def test_missing_nodes(self):
        history = self.history
        for plan, node in ((7, 7), (-1, -1), ((5, 6), 5), ((1, (6, 5)), 6), (((1, 2), (-3, 8)), -3),
                           (((0, 2), 9), 9), ((((0, 9), 8), 7), 9)):
            self.refuse_on(history, NoNode, {"node": node}, play_plan, history, plan)

    def test_random_plans(self):
        chance = random.Random(52)
        ends = [0, 0]
        for _ in range(150):
            history = random_history(chance)
            tips = chance.sample(list(history), min(4, history.node_count()))
            clashes = []
            for _ in range(6):
                plan = random_plan(chance, tips)
                clashes.append([nodes for nodes in map(plan_nodes, pairs_of(plan)) if clash_of(history, nodes)])
                if clashes[-1]:
                    fields = {"nodes": clashes[-1][0]}
                    self.refuse_on(history, PlanClash, fields, play_plan, history, plan)
                else:
                    self.check_on(history, merged_book(history, tips), play_plan, plan)
                ends[bool(clashes[-1])] += 1
            clash = least_clash(history, tips)
            if clash is None:
                self.assertFalse(any(clashes))
            else:
                # The least clash merged first, then the others: this plan clashes, whatever the others answer.
                plan = clash[0]
                for tip in [*clash[1:], *[tip for tip in tips if tip not in clash]]:
                    plan = (plan, tip)
                self.refuse_on(history, PlanClash, {"nodes": clash}, play_plan, history, plan)
        self.assertGreater(min(ends), 50)

    def test_some_plan_clashes_if_there_is_a_least_clash(self):
        history = self.history
        clash = least_clash(history, [4, 1, 0, 2])
        self.assertEqual(clash, [1, 2])
        self.refuse_on(history, PlanClash, {"nodes": clash}, play_plan, history, ((1, 2), (4, 0)))


if __name__ == "__main__":
    unittest.main()
