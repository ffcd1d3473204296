"""Points 2, 57 and 58: the fewest changes that two forks give up, and what becomes of each change."""

import random
import unittest
from functools import partial

from forkedshelves.clashes import inherited_pairs, merge_parts
from forkedshelves.fewest import fewest_given_up, verdicts
from forkedshelves.forks import Fork
from forkedshelves.matching import most_disjoint
from forkedshelves.pairs import Apart, Needs
from forkedshelves.rulebook import RuleBook
from tests.forkcases import best_keepings, model_keepings, random_fork_pair, random_graph_forks
from tests.helpers import WatchedCase


def model_words(places, kept_lists):
    """The word for each place, by the lists of places that the best keepings keep."""
    words = {}
    for place in places:
        held = [place in kept for kept in kept_lists]
        words[place] = "kept" if all(held) else "either" if any(held) else "given"
    return words


class FewestCase(WatchedCase):
    def setUp(self):
        self.rules = RuleBook([("unlike", Apart([1, 2, 3])), ("link", Needs([(8, 1), (9, 8)]))])

    def forks(self, base, first, second):
        return Fork(self.rules, base, first), Fork(self.rules, base, second)

    def random_cases(self, seed, many):
        chance = random.Random(seed)
        for number in range(many):
            yield random_fork_pair(chance) if number % 2 else random_graph_forks(chance)


class FewestGivenUpTest(FewestCase):
    def test_the_example_of_the_document(self):
        rules = RuleBook([("unlike", Apart([1, 2, 3]))])
        first, second = Fork(rules, {}, {1: 4, 5: 1}), Fork(rules, {}, {2: 4, 5: 2, 6: 2})
        self.assertEqual(fewest_given_up(first, second)[:2], ([], [2, 5]))
        self.check(([], [2, 5], [(1, 2), (5, 5)]), fewest_given_up, first, second)
        self.check(([1, 5], [], [(1, 2), (5, 5)]), partial(fewest_given_up, favour="second"), first, second)
        self.assertEqual(sorted(verdicts(first, second)[1].items()), [(2, "either"), (5, "either"), (6, "kept")])

    def test_forks_without_clashes(self):
        for books in [({1: 5}, {2: 6}), ({}, {2: 6}), ({}, {}), ({7: 1}, {7: 1})]:
            self.check(([], [], []), fewest_given_up, *self.forks({}, *books))

    def test_what_a_change_needs_is_given_up_last(self):
        # Place 1 clashes with place 2, so the places 8 and 9 that need it inherit the clash.
        first, second = self.forks({}, {1: 4, 8: 1, 9: 1}, {2: 4})
        for favour in ("first", "second"):
            self.assertEqual(fewest_given_up(first, second, favour=favour)[:2], ([], [2]))
            self.assertEqual(fewest_given_up(second, first, favour=favour)[:2], ([2], []))

    def test_a_change_of_both_forks(self):
        for value, expected in [(1, ([], [], [])), (2, ([], [7], [(7, 7)]))]:
            self.check(expected, fewest_given_up, *self.forks({}, {7: 1, 6: 1}, {7: value, 5: 1}))

    def test_what_the_other_fork_has_at_a_needed_place_does_not_help(self):
        # Both forks fill place 1 with the same value, and place 2 of the second one clashes with that of the first.
        first, second = self.forks({3: 6}, {3: 6, 1: 4, 8: 1}, {3: 4})
        self.assertEqual(fewest_given_up(first, second)[:2], ([], [3]))
        first, second = self.forks({}, {1: 4, 8: 1, 2: 7}, {1: 4, 3: 7})
        self.assertEqual(fewest_given_up(first, second)[:2], ([], [3]))

    def test_the_favoured_fork_is_the_first_one_if_none_is_named(self):
        first, second = self.forks({}, {7: 1}, {7: 2})
        self.assertEqual(fewest_given_up(first, second), fewest_given_up(first, second, favour="first"))

    def test_random_forks(self):
        """Against all pairs of parts."""
        given = 0
        for rules, base, first, second, *forks in self.random_cases(57, 240):
            keepings = model_keepings(rules, base, first, second)
            best = best_keepings(keepings)
            pairs = inherited_pairs(*forks)
            for favour in ("first", "second"):
                function = partial(fewest_given_up, favour=favour)
                found = self.call(function, *forks)
                self.assertEqual(found[:2], most_disjoint(pairs, favour=favour)[:2])
                kept = tuple(tuple(place for place in fork.places if place not in gone)
                             for fork, gone in zip(forks, found))
                self.assertIn(kept, best)
                parts = [fork.part(list(places)) for fork, places in zip(forks, kept)]
                self.assertEqual(tuple(part.places for part in parts), kept)
                self.assertTrue(rules.is_lawful(merge_parts(*parts)))
                self.assertLessEqual(set(found[2]), set(pairs))
                self.assertEqual(len(found[2]), len(found[0]) + len(found[1]))
                self.check_new(function, *forks)
                given += len(found[2])
                for one, other in best:
                    own, others = ((kept[0], one), (kept[1], other)) if favour == "first" else ((kept[1], other),
                                                                                                (kept[0], one))
                    self.assertGreaterEqual(set(own[0]), set(own[1]))
                    self.assertLessEqual(set(others[0]), set(others[1]))
        self.assertGreater(given, 100)

    def test_thirty_changes(self):
        rules = RuleBook([("unlike", Apart(list(range(30))))])
        first = Fork(rules, {}, {place: 1 + place for place in range(30)})
        second = Fork(rules, {}, {place: 30 - place for place in range(30)})
        self.assertEqual(fewest_given_up(first, second)[:2], ([], list(range(30))))
        self.assertEqual(fewest_given_up(first, second, favour="second")[:2], (list(range(30)), []))
        self.assertEqual(set(verdicts(first, second)[0].values()), {"either"})


class VerdictsTest(FewestCase):
    def test_the_three_words(self):
        first, second = self.forks({}, {1: 4, 5: 1, 6: 6, 8: 1}, {2: 4, 5: 2})
        self.check(({1: "kept", 5: "either", 6: "kept", 8: "kept"}, {2: "given", 5: "either"}), verdicts, first, second)
        self.check(({2: "given", 5: "either"}, {1: "kept", 5: "either", 6: "kept", 8: "kept"}), verdicts, second, first)

    def test_forks_without_clashes(self):
        self.check(({1: "kept"}, {2: "kept", 9: "kept"}),
                   verdicts, *self.forks({9: 1, 8: 1, 1: 5}, {9: 1, 8: 1, 1: 6}, {2: 4, 8: 1, 1: 5}))
        self.check(({}, {}), verdicts, *self.forks({1: 4}, {1: 4}, {1: 4}))
        self.check(({}, {7: "kept"}), verdicts, *self.forks({}, {}, {7: 2}))

    def test_the_same_change_in_both_forks(self):
        self.check(({7: "kept"}, {7: "kept"}), verdicts, *self.forks({}, {7: 1}, {7: 1}))
        self.check(({7: "either"}, {7: "either"}), verdicts, *self.forks({}, {7: 1}, {7: 2}))

    def test_random_forks(self):
        """Against all best keepings."""
        seen = {"kept": 0, "given": 0, "either": 0}
        for rules, base, first, second, *forks in self.random_cases(58, 300):
            best = best_keepings(model_keepings(rules, base, first, second))
            expected = tuple(model_words(fork.places, [keeping[side] for keeping in best])
                             for side, fork in enumerate(forks))
            self.check(expected, verdicts, *forks)
            for words in expected:
                for word in words.values():
                    seen[word] += 1
        self.assertGreater(min(seen.values()), 50)


if __name__ == "__main__":
    unittest.main()
