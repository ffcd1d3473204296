"""Point 20."""

import random
import unittest

from forkedshelves.books import with_writes
from forkedshelves.listed import Ban
from forkedshelves.nests import Nest
from forkedshelves.pairs import Apart, Match, Needs, Order
from forkedshelves.rulebook import RuleBook
from forkedshelves.sums import AtLeast, AtMost, Total
from forkedshelves.touching import independent, touched
from tests.helpers import WatchedCase


class TouchedTest(WatchedCase):
    def setUp(self):
        self.rules = RuleBook([("unlike", Apart([1, 2])), ("link", Needs([(3, 1)])), ("none", Match(7, [], 8, [1])),
                               ("many", AtMost([9, 4], 2))])

    def test_written_places_and_their_mates(self):
        self.check([1, 2, 3], touched, self.rules, {1: 5})
        self.check([1, 2], touched, self.rules, {2: 5})
        self.check([1, 2, 3, 6], touched, self.rules, {6: 1, 3: 1, 2: 4})
        self.check([5], touched, self.rules, {5: 9})

    def test_writes_of_0_touch_as_well(self):
        self.check([1, 2, 3], touched, self.rules, {1: 0})

    def test_mates_by_rules_that_have_no_bar_with_both(self):
        self.check([7, 8], touched, self.rules, {7: 1})
        self.check([4, 9], touched, self.rules, {9: 1})

    def test_touching_goes_one_step(self):
        # 2 is a mate of 1, and 1 of 3, but 2 is no mate of 3.
        self.check([1, 3], touched, self.rules, {3: 1})

    def test_without_rules(self):
        self.check([1, 255], touched, RuleBook([]), {255: 1, 1: 1})


class IndependentTest(WatchedCase):
    def setUp(self):
        self.rules = RuleBook([("unlike", Apart([1, 2])), ("link", Needs([(3, 1)])), ("none", Match(7, [], 8, [1]))])

    def check_both(self, expected, first, second):
        self.check(expected, independent, self.rules, first, second)
        self.check(expected, independent, self.rules, second, first)

    def test_deeds_at_the_same_place(self):
        self.check_both(False, {5: 1}, {5: 2})
        self.check_both(False, {5: 1}, {5: 1})
        self.check_both(False, {5: 0, 6: 1}, {4: 1, 5: 0})

    def test_equal_deeds(self):
        self.check_both(False, {1: 2}, {1: 2})

    def test_deeds_at_mates(self):
        self.check_both(False, {1: 1}, {2: 1})
        self.check_both(False, {4: 1, 3: 0}, {1: 0})
        self.check_both(False, {7: 1}, {8: 1})

    def test_deeds_at_other_places(self):
        self.check_both(True, {4: 1}, {5: 1})
        self.check_both(True, {1: 1}, {5: 1, 7: 1})

    def test_deeds_whose_mates_meet_are_independent(self):
        # Both touch 1, but none of them writes it.
        self.check_both(True, {2: 1}, {3: 1})

    def test_without_rules(self):
        self.check(True, independent, RuleBook([]), {1: 1}, {2: 1})
        self.check(False, independent, RuleBook([]), {1: 1, 2: 1}, {2: 1})

    def test_independent_neighbours_may_be_exchanged(self):
        chance = random.Random(20)
        rules = RuleBook([("a", Apart([0, 1])), ("b", Needs([(2, 3)])), ("c", Total([4, 5], 3)), ("d", Order(0, 6, 0)),
                          ("e", Nest([7, 8])), ("f", AtLeast([3, 9], 1)), ("g", Ban([[(5, 1), (6, 1)]]))])
        exchanged = 0
        for _ in range(4000):
            book = {place: chance.randint(1, 2) for place in range(10) if chance.random() < 0.5}
            deeds = [{chance.randint(0, 9): chance.randint(0, 2) for _ in range(chance.randint(1, 2))} for _ in "ab"]
            between = [with_writes(book, deeds[0]), with_writes(book, deeds[1])]
            last = with_writes(between[0], deeds[1])
            if rules.is_lawful(book) and rules.is_lawful(between[0]) and rules.is_lawful(last):
                if independent(rules, deeds[0], deeds[1]):
                    exchanged += 1
                    self.assertTrue(rules.is_lawful(between[1]))
                    self.assertEqual(with_writes(between[1], deeds[0]), last)
        self.assertGreater(exchanged, 100)


if __name__ == "__main__":
    unittest.main()
