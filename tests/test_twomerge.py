"""Points 3, 41 and 42: merging two books over a third one."""

import random
import unittest

from forkedshelves.errors import PlaceClash, RuleClash, Unlawful
from forkedshelves.listed import Ban
from forkedshelves.pairs import Apart, Match, Needs
from forkedshelves.rulebook import RuleBook
from forkedshelves.sums import AtLeast, Total
from forkedshelves.twomerge import merge_two, sides
from tests.helpers import WatchedCase, all_books, held


class MergeTwoTest(WatchedCase):
    def setUp(self):
        self.rules = RuleBook([("unlike", Apart([1, 2])), ("link", Needs([(3, 1)])), ("small", Total([5, 6, 7], 3))])

    def test_changes_of_both_sides(self):
        self.check({1: 4, 2: 5}, merge_two, self.rules, {}, {1: 4}, {2: 5})
        self.check({1: 4, 2: 5, 9: 9}, merge_two, self.rules, {1: 4, 9: 9}, {1: 4, 9: 9}, {1: 4, 2: 5, 9: 9})
        self.check({1: 8, 4: 4}, merge_two, self.rules, {1: 4, 9: 9}, {1: 8, 9: 9, 4: 4}, {1: 4, 4: 4})
        self.check({}, merge_two, self.rules, {1: 4}, {}, {})
        self.check({}, merge_two, self.rules, {}, {}, {})

    def test_an_emptied_place(self):
        self.check({2: 4}, merge_two, self.rules, {1: 5}, {}, {1: 5, 2: 4})
        self.check({2: 4}, merge_two, self.rules, {1: 5}, {1: 5, 2: 4}, {})

    def test_unlawful_books_in_their_order(self):
        wrong, worse, worst = {1: 4, 2: 4}, {3: 1}, {5: 4}
        cases = [(wrong, worse, worst, "unlike", ((1, 4), (2, 4))), ({}, worse, worst, "link", ((1, 0), (3, 1))),
                 ({}, {}, worst, "small", ((5, 4),)), (wrong, {}, {}, "unlike", ((1, 4), (2, 4))),
                 (wrong, {}, worse, "unlike", ((1, 4), (2, 4)))]
        for base, first, second, key, bar in cases:
            self.refuse(Unlawful, {"key": key, "bar": bar}, merge_two, self.rules, base, first, second)

    def test_an_unlawful_book_comes_before_a_clash(self):
        self.refuse(Unlawful, {"key": "link", "bar": ((1, 0), (3, 1))}, merge_two, self.rules, {}, {9: 1},
                    {9: 2, 3: 1})

    def test_a_place_clash(self):
        self.refuse(PlaceClash, {"place": 4, "found": [7, 8]}, merge_two, self.rules, {}, {9: 1, 4: 8}, {9: 2, 4: 7})
        self.refuse(PlaceClash, {"place": 4, "found": [7, 8]}, merge_two, self.rules, {4: 1}, {4: 7}, {4: 8})
        self.refuse(PlaceClash, {"place": 4, "found": [0, 8]}, merge_two, self.rules, {4: 1}, {4: 8}, {})
        self.refuse(PlaceClash, {"place": 4, "found": [0, 8]}, merge_two, self.rules, {4: 1}, {}, {4: 8})

    def test_a_rule_clash(self):
        self.refuse(RuleClash, {"key": "unlike", "bar": ((1, 4), (2, 4))}, merge_two, self.rules, {}, {1: 4}, {2: 4})
        self.refuse(RuleClash, {"key": "link", "bar": ((1, 0), (3, 2))}, merge_two, self.rules, {1: 1}, {},
                    {1: 1, 3: 2})
        self.refuse(RuleClash, {"key": "small", "bar": ((5, 1), (6, 1), (7, 2))}, merge_two, self.rules, {6: 1},
                    {5: 1, 6: 1}, {6: 1, 7: 2})

    def test_a_place_clash_comes_before_a_rule_clash(self):
        self.refuse(PlaceClash, {"place": 9, "found": [1, 2]}, merge_two, self.rules, {}, {1: 4, 9: 1}, {2: 4, 9: 2})

    def test_all_books_of_a_small_world(self):
        rules = RuleBook([("total", Total([0, 1, 2], 3)), ("least", AtLeast([0, 1], 1)), ("ban", Ban([[(0, 1), (2, 2)]])),
                          ("match", Match(1, [2], 2, [0, 1]))])
        lawful = [book for book in all_books([0, 1, 2], [0, 1, 2]) if rules.is_lawful(book)]
        ends = {PlaceClash: 0, RuleClash: 0, None: 0}
        for base in lawful:
            for first in lawful:
                for second in lawful:
                    ends[self.check_merge(rules, base, first, second)] += 1
        self.assertGreater(min(ends.values()), 100)

    def check_merge(self, rules, base, first, second):
        merged = {}
        for place in range(3):
            origin, left, right = [book.get(place, 0) for book in (base, first, second)]
            if left != right and origin not in (left, right):
                fields = {"place": place, "found": sorted([left, right])}
                self.refuse(PlaceClash, fields, merge_two, rules, base, first, second)
                return PlaceClash
            if (left if right == origin else right) > 0:
                merged[place] = left if right == origin else right
        if rules.is_lawful(merged):
            self.assertEqual(merge_two(rules, base, first, second), merged)
            return None
        key, bar = rules.reason(merged)
        self.refuse(RuleClash, {"key": key, "bar": bar}, merge_two, rules, base, first, second)
        held_by = sides(first, second, bar)
        self.assertEqual(sorted(sum(held_by, [])), list(bar))
        self.assertTrue(held_by[0] and held_by[1])
        return RuleClash


class SidesTest(WatchedCase):
    def test_marks_of_each_side(self):
        first, second = {1: 4, 2: 5, 9: 1}, {1: 4, 3: 6}
        self.check(([(2, 5)], [(3, 6)], [(1, 4)]), sides, first, second, ((1, 4), (2, 5), (3, 6)))
        self.check(([], [], [(1, 4)]), sides, first, second, ((1, 4),))
        self.check(([(2, 5), (9, 1)], [], []), sides, first, second, ((2, 5), (9, 1)))

    def test_values_of_0(self):
        self.check(([(3, 0)], [(2, 0)], [(4, 0)]), sides, {2: 5}, {3: 6}, ((2, 0), (3, 0), (4, 0)))

    def test_marks_that_nobody_holds(self):
        self.check(([], [], []), sides, {1: 4}, {1: 5}, ((1, 6), (2, 3), (3, 1)))
        self.check(([(1, 4)], [], []), sides, {1: 4}, {1: 5}, ((1, 4), (2, 3)))

    def test_random_books(self):
        chance = random.Random(42)
        for _ in range(200):
            first, second = [{place: chance.randint(1, 2) for place in range(6) if chance.random() < 0.6} for _ in "ab"]
            bar = tuple((place, chance.randint(0, 2)) for place in range(6) if chance.random() < 0.7)
            holders = [[held(book, [mark]) for book in (first, second)] for mark in bar]
            expected = tuple([mark for mark, holder in zip(bar, holders) if holder == kind]
                             for kind in ([True, False], [False, True], [True, True]))
            self.check(expected, sides, first, second, bar)


if __name__ == "__main__":
    unittest.main()
