"""Points 3 and 21."""

import random
import unittest
from itertools import permutations

from forkedshelves.errors import OtherDeeds
from forkedshelves.exchange import exchange_plan
from forkedshelves.pairs import Apart, Match
from forkedshelves.rulebook import RuleBook
from forkedshelves.runs import first_run
from forkedshelves.touching import independent
from tests.helpers import WatchedCase
from tests.runcases import random_rulebook, random_run


def corresponding(first, second):
    """For each deed of the first run the position of the corresponding deed of the second one."""
    targets = []
    for at, deed in enumerate(first):
        nth = first[:at].count(deed)
        targets.append([position for position, other in enumerate(second) if other == deed][nth])
    return targets


class ExchangePlanTest(WatchedCase):
    def setUp(self):
        self.rules = RuleBook([("unlike", Apart([1, 2])), ("none", Match(7, [], 8, [1]))])

    def check_plan(self, rules, first, second):
        """Check a result by the words of the point."""
        result = self.call(exchange_plan, rules, first, second)
        self.assertIs(type(result), tuple)
        targets = corresponding(first, second)
        pairs = [(i, j) for j in range(len(first)) for i in range(j) if targets[i] > targets[j]]
        kept = sorted(pair for pair in pairs if not independent(rules, first[pair[0]], first[pair[1]]))
        if kept:
            self.assertEqual(result, ("pair", *kept[0]))
        else:
            self.assertEqual(result[0], "exchanges")
            self.assertEqual(len(result), 2)
            self.assertIs(type(result[1]), list)
            self.assertEqual(len(result[1]), len(pairs))
            current = list(first)
            for at in result[1]:
                self.assertTrue(0 <= at < len(first) - 1)
                self.assertTrue(independent(rules, current[at], current[at + 1]))
                current[at], current[at + 1] = current[at + 1], current[at]
            self.assertEqual(current, second)
        self.check_new(exchange_plan, rules, first, second)
        return result

    def test_one_exchange(self):
        self.check(("exchanges", [0]), exchange_plan, self.rules, [{5: 1}, {1: 4}], [{1: 4}, {5: 1}])
        self.check(("exchanges", [1]), exchange_plan, self.rules, [{3: 1}, {5: 1}, {1: 4}], [{3: 1}, {1: 4}, {5: 1}])

    def test_equal_runs_and_the_empty_run(self):
        self.check(("exchanges", []), exchange_plan, self.rules, [], [])
        run = [{1: 4}, {2: 6}, {1: 4}, {5: 1}]
        self.check(("exchanges", []), exchange_plan, self.rules, run, [dict(deed) for deed in run])

    def test_a_reversed_run_of_independent_deeds(self):
        run = [{place: 1} for place in (3, 4, 5, 6, 9)]
        plan = self.check_plan(self.rules, run, run[::-1])
        self.assertEqual([plan[0], len(plan[1])], ["exchanges", 10])

    def test_deeds_that_are_not_independent(self):
        self.check(("pair", 0, 1), exchange_plan, self.rules, [{1: 4}, {2: 6}], [{2: 6}, {1: 4}])
        self.check(("pair", 0, 1), exchange_plan, self.rules, [{5: 4}, {5: 6}], [{5: 6}, {5: 4}])
        self.check(("pair", 0, 1), exchange_plan, self.rules, [{7: 0}, {8: 0}], [{8: 0}, {7: 0}])

    def test_the_least_pair(self):
        run = [{3: 1}, {1: 4}, {5: 1}, {5: 2}, {2: 6}]
        self.check(("pair", 1, 4), exchange_plan, self.rules, run, [run[4], run[3], run[2], run[1], run[0]])
        # The least one by the first position, not by the second one.
        self.check(("pair", 0, 3), exchange_plan, self.rules, [{1: 1}, {5: 1}, {5: 2}, {2: 2}],
                   [{2: 2}, {5: 2}, {5: 1}, {1: 1}])

    def test_the_least_pair_of_one_deed_with_several(self):
        self.check(("pair", 0, 2), exchange_plan, self.rules, [{5: 1}, {6: 1}, {5: 2}, {5: 3}],
                   [{5: 3}, {5: 2}, {6: 1}, {5: 1}])

    def test_the_positions_of_the_pair_are_those_of_the_first_run(self):
        self.check(("pair", 1, 3), exchange_plan, self.rules, [{3: 1}, {5: 1}, {4: 1}, {5: 2}],
                   [{5: 2}, {5: 1}, {4: 1}, {3: 1}])

    def test_a_deed_that_occurs_several_times(self):
        first = [{5: 1}, {3: 1}, {5: 1}, {4: 2}]
        self.check_plan(self.rules, first, [{3: 1}, {5: 1}, {4: 2}, {5: 1}])
        self.check_plan(self.rules, first, [{4: 2}, {5: 1}, {5: 1}, {3: 1}])
        self.check(("exchanges", []), exchange_plan, self.rules, [{5: 1}, {5: 1}], [{5: 1}, {5: 1}])
        # The first {5: 1} corresponds to the first one, so it is the second one that stands in another order.
        self.check(("pair", 1, 2), exchange_plan, self.rules, [{5: 1}, {5: 2}, {5: 1}], [{5: 1}, {5: 1}, {5: 2}])
        self.check(("pair", 0, 1), exchange_plan, self.rules, [{5: 1}, {5: 2}, {5: 1}], [{5: 2}, {5: 1}, {5: 1}])

    def test_deeds_are_equal_in_any_order_of_their_places(self):
        self.check(("exchanges", [0]), exchange_plan, self.rules, [{5: 1, 3: 0}, {6: 1}], [{6: 1}, {3: 0, 5: 1}])

    def test_other_deeds(self):
        for first, second in [([], [{1: 1}]), ([{1: 1}], []), ([{1: 1}], [{1: 2}]), ([{1: 1}], [{2: 1}]),
                              ([{1: 1}], [{1: 1}, {1: 1}]), ([{1: 1}, {1: 1}], [{1: 1}]),
                              ([{1: 1}, {1: 1}, {2: 1}], [{1: 1}, {2: 1}, {2: 1}]),
                              ([{1: 1, 2: 0}], [{1: 1}]), ([{1: 0}], [{1: 1}]), ([{1: 1}], [{1: 1}, {3: 1}])]:
            self.refuse(OtherDeeds, {}, exchange_plan, self.rules, first, second)

    def test_other_deeds_come_before_a_pair(self):
        self.refuse(OtherDeeds, {}, exchange_plan, self.rules, [{5: 1}, {5: 2}], [{5: 2}, {5: 1}, {6: 1}])

    def test_all_orders_of_some_runs(self):
        chance = random.Random(21)
        for _ in range(12):
            rules, run = random_rulebook(chance), random_run(chance, 5, 6)
            for order in permutations(run):
                plan = self.check_plan(rules, run, list(order))
                self.assertEqual(plan[0] == "exchanges", first_run(rules, run) == first_run(rules, list(order)))

    def test_random_runs(self):
        chance = random.Random(211)
        words = []
        for _ in range(150):
            rules, run = random_rulebook(chance), random_run(chance, chance.randint(0, 9), 40)
            words.append(self.check_plan(rules, run, chance.sample(run, len(run)))[0])
        self.assertEqual(sorted(set(words)), ["exchanges", "pair"])

    def test_forty_deeds(self):
        run = [{place: 1} for place in range(10, 50)]
        self.assertEqual(len(self.check_plan(self.rules, run, run[::-1])[1]), 780)


if __name__ == "__main__":
    unittest.main()
