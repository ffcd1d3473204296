"""Points 3, 19, 22 and 23."""

import random
import unittest
from itertools import permutations

from forkedshelves.errors import BrokenRun, Unlawful
from forkedshelves.pairs import Apart, Match, Needs
from forkedshelves.rulebook import RuleBook
from forkedshelves.runs import first_run, play_run, stages
from forkedshelves.sums import Total
from forkedshelves.touching import independent
from tests.helpers import WatchedCase
from tests.runcases import random_rulebook, random_run


def key_of(run):
    return [sorted(deed.items()) for deed in run]


def reached_runs(rulebook, run):
    """The keys of all runs to which exchanges of independent neighbours lead."""
    found = {str(key_of(run)): run}
    waiting = [run]
    while waiting:
        current = waiting.pop()
        for at in range(len(current) - 1):
            if independent(rulebook, current[at], current[at + 1]):
                other = current[:at] + [current[at + 1], current[at]] + current[at + 2:]
                if str(key_of(other)) not in found:
                    found[str(key_of(other))] = other
                    waiting.append(other)
    return list(found.values())


class PlayRunTest(WatchedCase):
    def setUp(self):
        self.rules = RuleBook([("unlike", Apart([1, 2])), ("link", Needs([(3, 1)]))])

    def test_the_books_after_each_deed(self):
        run = [{1: 4}, {2: 5, 3: 1}, {7: 0}, {2: 0, 9: 9}]
        expected = [{1: 4, 6: 1}, {1: 4, 2: 5, 3: 1, 6: 1}, {1: 4, 2: 5, 3: 1, 6: 1}, {1: 4, 3: 1, 6: 1, 9: 9}]
        self.check(expected, play_run, self.rules, {6: 1}, run)

    def test_the_empty_run(self):
        self.check([], play_run, self.rules, {1: 4}, [])

    def test_equal_deeds(self):
        self.check([{1: 4}, {1: 4}], play_run, self.rules, {}, [{1: 4}, {1: 4}])

    def test_the_book_is_none_of_the_returned_ones(self):
        book = {1: 4}
        books = play_run(self.rules, book, [{5: 0}, {5: 0}])
        self.assertEqual(len({id(found) for found in [book, *books]}), 3)

    def test_an_unlawful_book(self):
        bar = ((1, 4), (2, 4))
        self.refuse(Unlawful, {"key": "unlike", "bar": bar}, play_run, self.rules, {1: 4, 2: 4}, [])
        self.refuse(Unlawful, {"key": "unlike", "bar": bar}, play_run, self.rules, {1: 4, 2: 4}, [{1: 0}])
        link = ((1, 0), (3, 2))
        self.refuse(Unlawful, {"key": "link", "bar": link}, play_run, self.rules, {3: 2}, [{1: 1}, {2: 1}])

    def test_unlawful_comes_before_broken_run(self):
        self.refuse(Unlawful, {"key": "link", "bar": ((1, 0), (3, 2))}, play_run, self.rules, {3: 2},
                    [{1: 4, 2: 4}, {3: 0}])

    def test_the_first_deed_that_breaks_a_rule(self):
        run = [{1: 4}, {3: 1}, {2: 4}, {1: 0}, {3: 0}]
        self.refuse(BrokenRun, {"position": 2, "key": "unlike", "bar": ((1, 4), (2, 4))},
                    play_run, self.rules, {}, run)
        self.refuse(BrokenRun, {"position": 0, "key": "link", "bar": ((1, 0), (3, 5))},
                    play_run, self.rules, {}, [{3: 5}])

    def test_a_deed_that_a_later_one_makes_good_is_broken_all_the_same(self):
        self.refuse(BrokenRun, {"position": 1, "key": "link", "bar": ((1, 0), (3, 1))},
                    play_run, self.rules, {}, [{5: 1}, {3: 1}, {1: 1}])

    def test_the_first_rule_and_its_first_bar(self):
        rules = RuleBook([("small", Total([1, 2, 3], 5)), ("unlike", Apart([1, 2]))])
        self.refuse(BrokenRun, {"position": 1, "key": "small", "bar": ((1, 3), (2, 3))},
                    play_run, rules, {}, [{1: 3}, {2: 3, 3: 1}])


class FirstRunTest(WatchedCase):
    def setUp(self):
        self.rules = RuleBook([("unlike", Apart([1, 2])), ("none", Match(7, [], 8, [1]))])

    def test_the_example_of_the_document(self):
        run = [{5: 1}, {1: 4}, {2: 6}, {3: 1}]
        self.check([{1: 4}, {2: 6}, {3: 1}, {5: 1}], first_run, self.rules, run)

    def test_the_empty_run_and_one_deed(self):
        self.check([], first_run, self.rules, [])
        self.check([{3: 0}], first_run, self.rules, [{3: 0}])

    def test_deeds_that_are_not_independent_keep_their_order(self):
        self.check([{2: 6}, {1: 4}], first_run, self.rules, [{2: 6}, {1: 4}])
        self.check([{8: 1}, {7: 1}], first_run, self.rules, [{8: 1}, {7: 1}])
        self.check([{5: 2}, {5: 1}, {5: 2}], first_run, self.rules, [{5: 2}, {5: 1}, {5: 2}])

    def test_a_deed_may_be_held_back_by_an_earlier_one(self):
        run = [{6: 1}, {6: 2, 1: 0}, {2: 5}, {3: 1}]
        self.check([{3: 1}, {6: 1}, {1: 0, 6: 2}, {2: 5}], first_run, self.rules, run)

    def test_equal_deeds(self):
        self.check([{3: 1}, {3: 1}, {4: 1}, {4: 1}], first_run, self.rules, [{4: 1}, {3: 1}, {4: 1}, {3: 1}])

    def test_deeds_are_compared_by_their_marks_in_ascending_order(self):
        # Each deed lists its places in another order than the ascending one.
        run = [{9: 1, 3: 2}, {8: 5, 4: 0}, {10: 7, 0: 9}, {6: 1}]
        self.check([{0: 9, 10: 7}, {3: 2, 9: 1}, {4: 0, 8: 5}, {6: 1}], first_run, self.rules, run)

    def test_shorter_deeds_come_first_where_the_marks_are_the_same(self):
        rules = RuleBook([])
        self.check([{3: 0}, {3: 0, 4: 1}], first_run, rules, [{3: 0}, {4: 1, 3: 0}])
        self.check([{3: 0, 4: 1}, {5: 1}, {6: 0, 7: 0}], first_run, rules, [{7: 0, 6: 0}, {5: 1}, {4: 1, 3: 0}])

    def test_the_deeds_that_are_returned_are_new(self):
        run = [{5: 1}, {1: 4}]
        for deed in first_run(self.rules, run):
            self.assertFalse(any(deed is passed for passed in run))

    def test_the_least_of_all_reached_runs(self):
        chance = random.Random(22)
        for _ in range(120):
            rules, run = random_rulebook(chance), random_run(chance, chance.randint(0, 6))
            least = min(reached_runs(rules, run), key=key_of)
            self.assertEqual(first_run(rules, run), least)

    def test_equal_first_runs_mean_that_one_leads_to_the_other(self):
        chance = random.Random(23)
        for _ in range(15):
            rules, run = random_rulebook(chance), random_run(chance, 4, 5)
            reached = [key_of(found) for found in reached_runs(rules, run)]
            for order in permutations(run):
                same = first_run(rules, list(order)) == first_run(rules, run)
                self.assertEqual(same, key_of(order) in reached)

    def test_forty_deeds(self):
        run = [{place: 1} for place in range(40, 0, -1)]
        self.check(list(reversed(run)), first_run, RuleBook([]), run)


class StagesTest(WatchedCase):
    def check_stages(self, rules, run):
        """Check the stages by the words of the point, and that the chain is one."""
        result = self.call(stages, rules, run)
        self.assertIs(type(result), tuple)
        rows, chain = result
        levels = []
        for later, deed in enumerate(run):
            bound = [levels[at] for at in range(later) if not independent(rules, run[at], deed)]
            levels.append(max(bound) + 1 if bound else 0)
        expected = [[at for at, level in enumerate(levels) if level == stage] for stage in sorted(set(levels))]
        self.assertEqual(rows, expected)
        self.assertEqual([levels[at] for at in chain], list(range(len(rows))))
        self.assertEqual(chain, sorted(chain))
        self.assertIs(type(chain), list)
        for first, second in zip(chain, chain[1:]):
            self.assertFalse(independent(rules, run[first], run[second]))
        self.check_new(stages, rules, run)
        return rows

    def setUp(self):
        self.rules = RuleBook([("unlike", Apart([1, 2])), ("none", Match(7, [], 8, [1]))])

    def test_the_example_of_the_document(self):
        run = [{5: 1}, {1: 4}, {2: 6}, {3: 1}]
        self.assertEqual(self.check_stages(self.rules, run), [[0, 1, 3], [2]])
        self.assertEqual(stages(self.rules, run)[1], [1, 2])

    def test_the_empty_run(self):
        self.check(([], []), stages, self.rules, [])

    def test_one_deed(self):
        self.check(([[0]], [0]), stages, self.rules, [{1: 0}])

    def test_independent_deeds_are_one_stage(self):
        self.assertEqual(self.check_stages(self.rules, [{9: 1}, {5: 1}, {1: 1}, {7: 1}]), [[0, 1, 2, 3]])

    def test_deeds_that_are_not_independent_are_as_many_stages(self):
        self.check(([[0], [1], [2]], [0, 1, 2]), stages, self.rules, [{5: 1}, {5: 1}, {5: 0}])
        self.check(([[0], [1], [2]], [0, 1, 2]), stages, self.rules, [{1: 1}, {2: 0}, {1: 2}])
        self.check(([[0], [1]], [0, 1]), stages, self.rules, [{8: 1}, {7: 1}])

    def test_each_deed_is_in_the_earliest_stage(self):
        run = [{5: 1}, {5: 2, 6: 1}, {9: 1}, {6: 2}, {9: 2}, {4: 1}]
        self.assertEqual(self.check_stages(self.rules, run), [[0, 2, 5], [1, 4], [3]])
        self.assertEqual(stages(self.rules, run)[1], [0, 1, 3])

    def test_a_chain_does_not_skip_to_a_deed_that_is_independent(self):
        run = [{3: 1}, {4: 1}, {4: 2, 5: 1}, {5: 2}]
        self.check(([[0, 1], [2], [3]], [1, 2, 3]), stages, self.rules, run)

    def test_random_runs(self):
        chance = random.Random(24)
        for _ in range(150):
            self.check_stages(random_rulebook(chance), random_run(chance, chance.randint(0, 12)))

    def test_forty_deeds(self):
        run = [{place % 7: place} for place in range(40)]
        self.assertEqual(len(self.check_stages(self.rules, run)), 12)


if __name__ == "__main__":
    unittest.main()
