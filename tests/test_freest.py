"""Points 2, 59 and 60: the questions of two forks, their choices, and the merges that leave nothing out in vain."""

import random
import unittest
from itertools import product

from forkedshelves.clashes import inherited_pairs, merge_parts
from forkedshelves.forks import Fork
from forkedshelves.freest import choices, freest_merges, questions
from forkedshelves.listed import Ban
from forkedshelves.pairs import Apart, Needs
from forkedshelves.rulebook import RuleBook
from tests.forkcases import graph_forks, model_keepings, random_fork_pair, random_graph_forks, subsets
from tests.helpers import WatchedCase


def model_questions(pairs):
    """The groups of connected places, put together pair by pair."""
    groups = []
    for x, y in pairs:
        joined = {("first", x), ("second", y)}
        for group in [group for group in groups if group & joined]:
            joined |= group
            groups.remove(group)
        groups.append(joined)
    sides = [tuple(sorted(place for side, place in group if side == name) for name in ("first", "second"))
             for group in groups]
    return sorted(sides)


def model_choices(pairs, question):
    """All pairs of sets of places of a question without a pair between them that cannot be larger."""
    free = [(xs, ys) for xs in subsets(question[0]) for ys in subsets(question[1])
            if not any(x in xs and y in ys for x, y in pairs)]
    return sorted((list(xs), list(ys)) for xs, ys in free if not has_larger(free, xs, ys))


def has_larger(found, xs, ys):
    """Whether some other pair of the list contains a pair."""
    return any((xs, ys) != (more_xs, more_ys) and set(xs) <= set(more_xs) and set(ys) <= set(more_ys)
               for more_xs, more_ys in found)


def shared_out(question, offered, group):
    """What the choices of a question are in a group of its places."""
    return {tuple(tuple(place for place in side if (name, place) in group) for name, side in enumerate(choice))
            for choice in offered}


class FreestCase(WatchedCase):
    def setUp(self):
        self.rules = RuleBook([("unlike", Apart([1, 2, 3, 4])), ("link", Needs([(8, 1), (9, 8)]))])

    def forks(self, base, first, second):
        return Fork(self.rules, base, first), Fork(self.rules, base, second)

    def random_cases(self, seed, many):
        chance = random.Random(seed)
        for number in range(many):
            yield random_fork_pair(chance) if number % 2 else random_graph_forks(chance)


class QuestionsTest(FreestCase):
    def test_forks_without_inherited_pairs(self):
        for books in [({1: 5}, {2: 6}), ({}, {2: 6}), ({}, {}), ({7: 1}, {7: 1})]:
            self.check([], questions, *self.forks({}, *books))

    def test_one_question(self):
        self.check([([1, 8, 9], [2])], questions, *self.forks({}, {9: 1, 8: 1, 1: 4}, {2: 4}))
        self.check([([2], [1, 8, 9])], questions, *self.forks({}, {2: 4}, {9: 1, 8: 1, 1: 4}))

    def test_places_of_both_forks(self):
        self.check([([1, 2], [2, 3])], questions, *self.forks({}, {1: 4, 2: 5}, {2: 4, 3: 5}))
        self.check([([1, 4], [1, 3])], questions, *self.forks({}, {1: 4, 2: 5, 4: 6}, {2: 5, 3: 4, 1: 6}))
        self.check([([5], [5]), ([6], [6])], questions, *self.forks({}, {5: 1, 6: 1, 7: 1}, {5: 2, 6: 2, 7: 1}))

    def test_a_place_of_both_forks_that_inherits_a_clash(self):
        # Both forks write 1 to place 8, which needs place 1, and there they differ.
        self.check([([1, 8], [1, 8])], questions, *self.forks({}, {1: 4, 8: 1}, {1: 5, 8: 1}))

    def test_a_place_that_clashes_with_itself_and_with_others(self):
        # Both forks write to place 2, and each of the two changes clashes with another place as well.
        rules = RuleBook([("left", Ban([[(1, 1), (2, 1)]])), ("right", Ban([[(2, 2), (3, 1)]]))])
        first, second = Fork(rules, {2: 9}, {2: 1, 3: 1}), Fork(rules, {2: 9}, {1: 1, 2: 2})
        self.check([([2, 3], [1, 2])], questions, first, second)
        self.check([(2, 1), (2, 2), (3, 2)], inherited_pairs, first, second)
        self.check([([], [1, 2]), ([2, 3], []), ([3], [1])], choices, first, second, ([2, 3], [1, 2]))

    def test_questions_are_ordered_by_their_lowest_first_places(self):
        rules, base, one, other = graph_forks([(4, 0), (3, 1), (2, 0), (0, 3)])
        self.check([([0], [13]), ([2, 4], [10]), ([3], [11])], questions, Fork(rules, base, one), Fork(rules, base, other))

    def test_random_forks(self):
        several = 0
        for _, _, _, _, *forks in self.random_cases(59, 300):
            expected = model_questions(inherited_pairs(*forks))
            self.check(expected, questions, *forks)
            several += len(expected) > 1
        self.assertGreater(several, 30)


class ChoicesTest(FreestCase):
    def test_one_pair(self):
        self.check([([], [2]), ([1], [])], choices, *self.forks({}, {1: 4}, {2: 4}), ([1], [2]))

    def test_a_star(self):
        forks = self.forks({}, {1: 4, 8: 1, 9: 1}, {2: 4})
        self.check([([], [2]), ([1, 8, 9], [])], choices, *forks, ([1, 8, 9], [2]))

    def test_a_chain(self):
        rules, base, one, other = graph_forks([(0, 0), (1, 0), (1, 1)])
        forks = Fork(rules, base, one), Fork(rules, base, other)
        self.check([([], [10, 11]), ([0], [11]), ([0, 1], [])], choices, *forks, ([0, 1], [10, 11]))

    def test_one_of_several_questions(self):
        rules, base, one, other = graph_forks([(0, 0), (1, 1), (2, 1)])
        forks = Fork(rules, base, one), Fork(rules, base, other)
        self.check([([], [10]), ([0], [])], choices, *forks, ([0], [10]))
        self.check([([], [11]), ([1, 2], [])], choices, *forks, ([1, 2], [11]))

    def test_random_forks(self):
        """Against all pairs of sets of places of the question; and no question can be divided."""
        largest = 0
        for _, _, _, _, *forks in self.random_cases(591, 240):
            pairs = inherited_pairs(*forks)
            for question in questions(*forks):
                expected = model_choices(pairs, question)
                self.check(expected, choices, *forks, question)
                largest = max(largest, len(expected))
                things = [(side, place) for side in (0, 1) for place in question[side]]
                for group in subsets(things[1:])[:-1]:
                    left, right = {things[0], *group}, set(things) - {things[0], *group}
                    combined = len(shared_out(question, expected, left)) * len(shared_out(question, expected, right))
                    self.assertLess(len(expected), combined)
        self.assertGreater(largest, 4)

    def test_eight_changed_places_and_some_more(self):
        for many in (8, 10):
            rules = RuleBook([])
            first = Fork(rules, {}, {place: 1 for place in range(many)})
            second = Fork(rules, {}, {place: 2 for place in range(many)})
            asked = questions(first, second)
            self.assertEqual(asked, [([place], [place]) for place in range(many)])
            self.assertEqual(len(freest_merges(first, second)), 1 << many)


class FreestMergesTest(FreestCase):
    def test_the_example_of_the_document(self):
        rules = RuleBook([("unlike", Apart([1, 2, 3]))])
        first, second = Fork(rules, {}, {1: 4, 5: 1}), Fork(rules, {}, {2: 4, 5: 2, 6: 2})
        self.check([([], [2, 5, 6]), ([1], [5, 6]), ([1, 5], [6]), ([5], [2, 6])], freest_merges, first, second)

    def test_forks_without_clashes(self):
        self.check([([1], [2, 7])], freest_merges, *self.forks({}, {1: 4}, {7: 1, 2: 5}))
        self.check([([], [])], freest_merges, *self.forks({}, {}, {}))
        self.check([([7], [7])], freest_merges, *self.forks({}, {7: 1}, {7: 1}))

    def test_one_question(self):
        self.check([([1, 5, 8], []), ([5], [2])], freest_merges, *self.forks({}, {1: 4, 8: 1, 5: 5}, {2: 4}))

    def test_random_forks(self):
        """Against all pairs of parts, and as many as the product of the numbers of choices."""
        most = 0
        for rules, base, one, other, *forks in self.random_cases(60, 240):
            keepings = model_keepings(rules, base, one, other)
            expected = sorted((list(xs), list(ys)) for xs, ys in keepings if not has_larger(keepings, xs, ys))
            self.check(expected, freest_merges, *forks)
            many = 1
            for question in questions(*forks):
                many *= len(choices(*forks, question))
            self.assertEqual(len(expected), many)
            most = max(most, many)
            for xs, ys in expected:
                parts = forks[0].part(xs), forks[1].part(ys)
                self.assertEqual([parts[0].places, parts[1].places], [tuple(xs), tuple(ys)])
                self.assertTrue(rules.is_lawful(merge_parts(*parts)))
        self.assertGreater(most, 7)

    def test_what_is_chosen_in_one_question_does_not_matter_in_another_one(self):
        rules, base, one, other = graph_forks([(0, 0), (1, 1), (2, 1), (2, 2)], [(3, 2)], [(4, 0)])
        forks = Fork(rules, base, one), Fork(rules, base, other)
        asked = questions(*forks)
        self.assertEqual(asked, [([0], [10, 14]), ([1, 2, 3], [11, 12])])
        unasked = {0: [4], 1: [13]}
        combined = [tuple(sorted([*unasked[side], *first[side], *second[side]]) for side in (0, 1))
                    for first, second in product(*[choices(*forks, question) for question in asked])]
        self.check(sorted(combined), freest_merges, *forks)


if __name__ == "__main__":
    unittest.main()
