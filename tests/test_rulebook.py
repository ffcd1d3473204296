"""Points 3 and 11."""

import unittest

from forkedshelves.errors import RepeatedKey
from forkedshelves.listed import Ban
from forkedshelves.nests import Nest
from forkedshelves.pairs import Apart, Match, Needs, Order
from forkedshelves.rulebook import RuleBook
from forkedshelves.sums import AtLeast, AtMost, Total
from tests.helpers import WatchedCase


class RuleBookTest(WatchedCase):
    def setUp(self):
        self.pairs = [("unlike", Apart([1, 2])), ("link", Needs([(3, 1)])), ("small", Total([1, 2, 5], 6))]
        self.rules = RuleBook(list(self.pairs))

    def test_iterating_gives_the_pairs_in_order(self):
        self.assertEqual(list(self.rules), self.pairs)
        self.assertEqual([type(pair) for pair in self.rules], [tuple] * 3)
        self.assertEqual(list(self.rules), self.pairs)

    def test_repeated_keys(self):
        rule = Apart([1, 2])
        self.refuse(RepeatedKey, {"key": "b"}, RuleBook, [("a", rule), ("b", rule), ("b", rule), ("a", rule)])
        self.refuse(RepeatedKey, {"key": "a"}, RuleBook, [("a", rule), ("b", rule), ("a", Apart([3])), ("b", rule)])

    def test_one_rule_may_have_several_keys(self):
        rule = Apart([1, 2])
        bar = ((1, 4), (2, 4))
        self.check([("b", bar), ("a", bar)], RuleBook([("b", rule), ("a", rule)]).reasons, {1: 4, 2: 4})

    def test_reason_is_that_of_the_first_broken_rule(self):
        self.check(("unlike", ((1, 4), (2, 4))), self.rules.reason, {1: 4, 2: 4})
        self.check(("link", ((1, 0), (3, 1))), self.rules.reason, {3: 1, 5: 7})
        self.check(("small", ((5, 7),)), self.rules.reason, {5: 7})
        self.check(None, self.rules.reason, {1: 4, 2: 1, 3: 1, 9: 1})

    def test_reasons_of_several_broken_rules(self):
        book = {2: 3, 3: 1, 5: 4}
        self.check([("link", ((1, 0), (3, 1))), ("small", ((2, 3), (5, 4)))], self.rules.reasons, book)
        self.check([("unlike", ((1, 4), (2, 4))), ("small", ((1, 4), (2, 4)))], self.rules.reasons, {1: 4, 2: 4})
        self.check([], self.rules.reasons, {1: 4})

    def test_is_lawful(self):
        self.check(True, self.rules.is_lawful, {})
        self.check(True, self.rules.is_lawful, {1: 4, 3: 1})
        self.check(False, self.rules.is_lawful, {3: 1})
        self.check(False, self.rules.is_lawful, {5: 7})

    def test_without_rules(self):
        rules = RuleBook([])
        self.assertEqual(list(rules), [])
        self.check(2, rules.largest_width)
        self.check(None, rules.wide_key)
        self.check(None, rules.reason, {1: 1})
        self.check([], rules.reasons, {1: 1})
        self.check(True, rules.is_lawful, {1: 1})
        self.check([], rules.mates, 1)
        self.check([], rules.bars_with, (1, 1), (2, 1))

    def test_largest_width_and_wide_key(self):
        self.check(3, self.rules.largest_width)
        self.check("small", self.rules.wide_key)
        narrow = RuleBook([("one", AtMost([1, 2], 0)), ("none", Apart([])), ("two", Order(1, 2, 0))])
        self.check(2, narrow.largest_width)
        self.check(None, narrow.wide_key)
        self.check(2, RuleBook([("one", AtMost([1, 2], 0))]).largest_width)
        wide = RuleBook([("b", AtMost([1, 2], 0)), ("z", Nest([1, 2, 3])), ("a", Nest([1, 2, 3, 4, 5]))])
        self.check(5, wide.largest_width)
        self.check("z", wide.wide_key)

    def test_mates(self):
        self.check([2, 3, 5], self.rules.mates, 1)
        self.check([1, 5], self.rules.mates, 2)
        self.check([1], self.rules.mates, 3)
        self.check([], self.rules.mates, 4)
        self.check([1, 2], self.rules.mates, 5)

    def test_mates_by_rules_that_have_no_bar_with_both(self):
        rules = RuleBook([("match", Match(8, [], 4, [1])), ("many", AtMost([9, 7, 4], 3)),
                          ("listed", Ban([[(1, 1)], [(2, 1)], [(2, 1), (3, 1)]])), ("alone", AtLeast([6], 1))])
        self.check([7, 8, 9], rules.mates, 4)
        self.check([4], rules.mates, 8)
        self.check([2], rules.mates, 1)
        self.check([], rules.mates, 3)
        self.check([], rules.mates, 6)

    def test_mates_of_a_needs_that_has_no_pair_of_both(self):
        rules = RuleBook([("link", Needs([(1, 2), (3, 4)]))])
        self.check([2, 3, 4], rules.mates, 1)

    def test_bars_with_takes_the_marks_in_either_order(self):
        rules = RuleBook([("b", Apart([1, 2])), ("wide", Total([1, 2, 3], 9)), ("a", Total([1, 2], 7)),
                          ("c", Apart([2, 1, 5])), ("one", AtMost([1, 2], 0))])
        for first, second in [((1, 4), (2, 4)), ((2, 4), (1, 4))]:
            self.check(["b", "a", "c"], rules.bars_with, first, second)
        self.check(["wide", "a"], rules.bars_with, (2, 7), (1, 5))
        self.check([], rules.bars_with, (1, 1), (2, 2))
        self.check(["c"], rules.bars_with, (5, 9), (1, 9))

    def test_bars_with_of_every_kind_of_rules(self):
        rules = RuleBook([("nest", Nest([1, 2])), ("listed", Ban([[(2, 1), (1, 2)]])), ("many", AtMost([1, 2], 1)),
                          ("few", AtLeast([1, 2], 1)), ("match", Match(2, [1], 1, [0])), ("order", Order(1, 2, 0))])
        for first, second in [((1, 2), (2, 1)), ((2, 1), (1, 2))]:
            self.check(["nest", "listed", "many", "match", "order"], rules.bars_with, first, second)
        self.check(["few"], rules.bars_with, (2, 0), (1, 0))

    def test_bars_with_marks_of_the_value_0(self):
        self.check(["link"], self.rules.bars_with, (3, 5), (1, 0))
        self.check(["link"], self.rules.bars_with, (1, 0), (3, 5))
        self.check([], self.rules.bars_with, (1, 5), (3, 0))

    def test_the_list_may_change_later(self):
        pairs = list(self.pairs)
        rules = RuleBook(pairs)
        pairs[0] = ("other", Apart([7, 8]))
        pairs.pop()
        self.assertEqual(list(rules), self.pairs)
        self.check([2, 3, 5], rules.mates, 1)
        self.check(("unlike", ((1, 4), (2, 4))), rules.reason, {1: 4, 2: 4})
        self.check(3, rules.largest_width)


if __name__ == "__main__":
    unittest.main()
