"""Points 3, 47 and 48: clashes of two forks, and merges of their parts."""

import random
import unittest

from forkedshelves.books import with_writes
from forkedshelves.clashes import clash_pairs, inherited_pairs, merge_parts
from forkedshelves.errors import PartClash, ShelfError
from forkedshelves.forks import Fork
from forkedshelves.listed import Ban
from forkedshelves.pairs import Apart, Needs
from forkedshelves.rulebook import RuleBook
from forkedshelves.sums import Total
from forkedshelves.twomerge import merge_two
from tests.forkcases import model_book, model_clashes, model_parts, model_smallest, random_fork_pair
from tests.helpers import WatchedCase


class ClashPairsTest(WatchedCase):
    def setUp(self):
        self.rules = RuleBook([("unlike", Apart([1, 2])), ("link", Needs([(3, 1)]))])

    def check_pairs(self, base, first, second, clashes, inherited):
        forks = [Fork(self.rules, base, first), Fork(self.rules, base, second)]
        self.check(clashes, clash_pairs, *forks)
        self.check(inherited, inherited_pairs, *forks)
        self.check(sorted((y, x) for x, y in clashes), clash_pairs, *forks[::-1])
        self.check(sorted((y, x) for x, y in inherited), inherited_pairs, *forks[::-1])

    def test_the_example_of_the_document(self):
        self.check_pairs({}, {1: 4, 3: 9}, {2: 4}, [(1, 2)], [(1, 2), (3, 2)])
        first = Fork(self.rules, {}, {1: 4, 3: 9})
        self.assertEqual([first.needs(), first.inside([3]).places], [[(3, 1)], ()])

    def test_the_same_place(self):
        self.check_pairs({}, {5: 1}, {5: 2}, [(5, 5)], [(5, 5)])
        self.check_pairs({}, {5: 1}, {5: 1}, [], [])
        self.check_pairs({5: 3}, {}, {5: 1}, [(5, 5)], [(5, 5)])
        self.check_pairs({5: 3}, {}, {}, [], [])

    def test_marks_with_the_value_0(self):
        self.check_pairs({1: 4}, {}, {1: 4, 3: 1}, [(1, 3)], [(1, 3)])
        self.check_pairs({1: 4}, {}, {1: 5, 3: 1}, [(1, 1), (1, 3)], [(1, 1), (1, 3)])

    def test_marks_of_unchanged_places_do_not_clash(self):
        self.check_pairs({1: 4}, {1: 4, 5: 5}, {1: 5, 2: 4}, [], [])

    def test_no_changes(self):
        self.check_pairs({1: 4}, {1: 4}, {1: 5}, [], [])
        self.check_pairs({1: 4}, {1: 4}, {1: 4}, [], [])

    def test_clashes_that_are_only_inherited(self):
        self.rules = RuleBook([("link", Needs([(3, 1), (4, 3), (6, 5)])), ("ban", Ban([[(1, 1), (5, 1)]]))])
        self.check_pairs({}, {1: 1, 3: 1, 4: 1}, {5: 1, 6: 1}, [(1, 5)],
                         [(x, y) for x in (1, 3, 4) for y in (5, 6)])

    def test_pairs_ascend(self):
        self.check_pairs({}, {30: 1, 2: 1, 7: 1}, {7: 2, 30: 2, 2: 2}, [(2, 2), (7, 7), (30, 30)],
                         [(2, 2), (7, 7), (30, 30)])

    def test_bars_of_one_mark_are_no_clash(self):
        self.rules = RuleBook([("none", Total([1, 2], 0)), ("ban", Ban([[(3, 3)], [(4, 4)]]))])
        self.check_pairs({}, {3: 1}, {4: 1}, [], [])

    def test_random_forks(self):
        chance = random.Random(47)
        only_inherited = 0
        for _ in range(250):
            rules, base, first, second, *forks = random_fork_pair(chance)
            clashes = model_clashes(rules, base, first, second)
            self.check(clashes, clash_pairs, *forks)
            parts = [model_parts(rules, base, book) for book in (first, second)]
            inherited = [(x, y) for x in forks[0].places for y in forks[1].places
                         if any((a, b) in clashes for a in model_smallest(parts[0], [x])
                                for b in model_smallest(parts[1], [y]))]
            only_inherited += len(inherited) - len(clashes)
            self.check(inherited, inherited_pairs, *forks)
            self.assertLessEqual(set(clashes), set(inherited))
        self.assertGreater(only_inherited, 30)

    def test_thirty_changes(self):
        rules = RuleBook([("unlike", Apart(list(range(30)))), ("link", Needs([(x, x + 1) for x in range(29)]))])
        base = {place: 100 + place for place in range(30)}
        first = Fork(rules, base, {place: 200 + place for place in range(30)})
        second = Fork(rules, base, {place: 229 - place for place in range(30)})
        self.assertEqual(len(clash_pairs(first, second)), 60)
        self.assertEqual(len(inherited_pairs(first, second)), 60)


class MergePartsTest(WatchedCase):
    def setUp(self):
        self.rules = RuleBook([("unlike", Apart([1, 2])), ("link", Needs([(3, 1)]))])
        self.first = Fork(self.rules, {8: 8}, {1: 4, 3: 9, 8: 8, 9: 9})
        self.second = Fork(self.rules, {8: 8}, {2: 4, 9: 1})

    def test_parts_that_go_together(self):
        first, second = self.first, self.second
        self.check({3: 9, 1: 4, 8: 8, 9: 1}, merge_parts, first.part([3]), second.part([9]))
        self.check({1: 4}, merge_parts, first.part([1]), second.part([8]))
        self.check({2: 4, 8: 8, 9: 9}, merge_parts, first.part([9]), second.part([2]))

    def test_empty_parts(self):
        empty = [self.first.part([]), self.second.part([])]
        self.check({8: 8}, merge_parts, *empty)
        self.check(self.first.whole().book(), merge_parts, self.first.whole(), empty[1])
        self.check({2: 4, 9: 1}, merge_parts, empty[0], self.second.whole())

    def test_the_least_clash_of_the_parts(self):
        first, second = self.first, self.second
        self.refuse(PartClash, {"first": 1, "second": 2}, merge_parts, first.whole(), second.whole())
        self.refuse(PartClash, {"first": 9, "second": 9}, merge_parts, first.whole(), second.part([9]))
        self.refuse(PartClash, {"first": 1, "second": 2}, merge_parts, first.part([3]), second.part([2, 9]))
        self.refuse(PartClash, {"first": 2, "second": 1}, merge_parts, second.whole(), first.whole())

    def test_the_same_change_on_both_sides(self):
        third = Fork(self.rules, {8: 8}, {9: 9})
        self.check({1: 4, 3: 9, 9: 9}, merge_parts, self.first.whole(), third.whole())

    def test_random_forks(self):
        chance = random.Random(48)
        merged = [0, 0]
        for _ in range(150):
            rules, base, first, second, *forks = random_fork_pair(chance)
            clashes = model_clashes(rules, base, first, second)
            inherited = inherited_pairs(*forks)
            for one in chance.sample(forks[0].all_parts(), min(4, len(forks[0].all_parts()))):
                for other in chance.sample(forks[1].all_parts(), min(4, len(forks[1].all_parts()))):
                    between = [pair for pair in clashes if pair[0] in one.places and pair[1] in other.places]
                    self.assertEqual(bool(between), any(x in one.places and y in other.places for x, y in inherited))
                    merged[bool(between)] += 1
                    if between:
                        fields = dict(zip(("first", "second"), between[0]))
                        self.refuse(PartClash, fields, merge_parts, one, other)
                    else:
                        book = model_book(model_book(base, first, one.places), second, other.places)
                        self.check(book, merge_parts, one, other)
                        self.assertTrue(rules.is_lawful(book))
        self.assertGreater(min(merged), 100)

    def test_the_whole_parts_against_merge_two(self):
        chance = random.Random(481)
        ends = [0, 0]
        for _ in range(300):
            rules, base, first, second, *forks = random_fork_pair(chance)
            try:
                expected = merge_two(rules, base, first, second)
            except ShelfError:
                expected = None
            ends[expected is None] += 1
            if expected is None:
                with self.assertRaises(PartClash):
                    merge_parts(forks[0].whole(), forks[1].whole())
            else:
                self.assertEqual(merge_parts(forks[0].whole(), forks[1].whole()), expected)
        self.assertGreater(min(ends), 30)

    def test_the_merge_changes_no_part(self):
        before = [self.first.whole().book(), self.second.whole().book()]
        merge_parts(self.first.part([1]), self.second.part([9]))
        self.assertEqual([self.first.whole().book(), self.second.whole().book()], before)
        self.assertEqual(with_writes({8: 8}, {9: 1}), self.second.part([9]).book() | {8: 8})


if __name__ == "__main__":
    unittest.main()
