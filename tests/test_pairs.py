"""Points 3, 8 and 9: Apart, Needs, Match and Order."""

import unittest

from forkedshelves.errors import EmptyChoice, RepeatedPlace
from forkedshelves.pairs import Apart, Match, Needs, Order
from tests.helpers import WatchedCase


class ApartTest(WatchedCase):
    def test_places_stay_in_the_order_in_which_they_were_passed(self):
        self.assertEqual(Apart([5, 2, 9]).places, (5, 2, 9))
        self.assertEqual([Apart(places).width for places in ([], [5], [5, 2], [5, 2, 9])], [0, 0, 2, 2])

    def test_bars_are_pairs_with_the_same_value(self):
        rule = Apart([5, 2, 9])
        book = {2: 7, 5: 7, 9: 7, 1: 7}
        self.check([((2, 7), (5, 7)), ((2, 7), (9, 7)), ((5, 7), (9, 7))], rule.bars_in, book)
        self.check(((2, 7), (5, 7)), rule.reason, book)
        self.check(False, rule.keeps, book)
        self.check([], rule.bars_in, {2: 7, 5: 8, 1: 7})
        self.check(None, rule.reason, {2: 7, 5: 8, 1: 7})
        self.check(True, rule.keeps, {2: 7, 5: 8, 1: 7})

    def test_empty_places_are_not_the_same(self):
        self.check(True, Apart([5, 2, 9]).keeps, {5: 1})
        self.check(False, Apart([5, 2, 9]).is_bar, ((2, 0), (5, 0)))

    def test_is_bar(self):
        rule = Apart([5, 2, 9])
        self.check(True, rule.is_bar, ((2, 9999), (5, 9999)))
        for marks in [(), ((2, 1),), ((5, 1), (2, 1)), ((2, 1), (2, 1)), ((2, 1), (5, 2)), ((2, 1), (3, 1)),
                      ((2, 1), (5, 1), (9, 1)), ((1, 1), (2, 1))]:
            self.check(False, rule.is_bar, marks)

    def test_repeated_places(self):
        self.refuse(RepeatedPlace, {"place": 2}, Apart, [5, 2, 9, 2, 5])
        self.refuse(RepeatedPlace, {"place": 0}, Apart, [0, 0])

    def test_the_list_may_change_later(self):
        places = [5, 2]
        rule = Apart(places)
        places[:] = [7, 8, 9]
        self.assertEqual(rule.places, (5, 2))
        self.check(False, rule.keeps, {2: 1, 5: 1})
        self.check(True, rule.keeps, {7: 1, 8: 1})

    def test_thirty_places(self):
        rule = Apart(list(range(30)))
        self.assertEqual(len(rule.bars_in({place: 3 for place in range(30)})), 435)
        self.check(((0, 1), (29, 1)), rule.reason, {0: 1, 29: 1, 3: 2})


class NeedsTest(WatchedCase):
    def test_places_are_ordered_by_first_occurrence(self):
        self.assertEqual(Needs([(8, 3), (1, 8), (3, 1), (8, 5)]).places, (8, 3, 1, 5))
        self.assertEqual([Needs(pairs).width for pairs in ([], [(1, 2)])], [0, 2])
        self.assertEqual(Needs([]).places, ())

    def test_bars_are_in_their_order_whatever_the_order_of_the_pairs(self):
        rule = Needs([(8, 3), (1, 9), (8, 2)])
        book = {8: 4, 1: 5, 7: 1}
        self.check([((1, 5), (9, 0)), ((2, 0), (8, 4)), ((3, 0), (8, 4))], rule.bars_in, book)
        self.check(((1, 5), (9, 0)), rule.reason, book)

    def test_a_pair_that_is_listed_twice_is_one_bar(self):
        self.check([((1, 2), (3, 0))], Needs([(1, 3), (1, 3)]).bars_in, {1: 2})

    def test_a_pair_and_its_reverse(self):
        rule = Needs([(1, 3), (3, 1)])
        self.check([((1, 2), (3, 0))], rule.bars_in, {1: 2})
        self.check([((1, 0), (3, 2))], rule.bars_in, {3: 2})
        self.check([], rule.bars_in, {1: 1, 3: 2})
        self.check([], rule.bars_in, {})

    def test_is_bar(self):
        rule = Needs([(8, 3), (1, 9)])
        self.check(True, rule.is_bar, ((3, 0), (8, 1)))
        self.check(True, rule.is_bar, ((1, 9999), (9, 0)))
        for marks in [(), ((8, 1),), ((8, 1), (3, 0)), ((3, 0), (8, 0)), ((3, 1), (8, 1)), ((3, 2), (8, 0)),
                      ((1, 1), (3, 0)), ((1, 0), (9, 1)), ((3, 0), (8, 1), (9, 0))]:
            self.check(False, rule.is_bar, marks)

    def test_equal_places_of_a_pair_are_refused(self):
        self.refuse(RepeatedPlace, {"place": 4}, Needs, [(1, 2), (4, 4), (3, 3)])
        self.refuse(RepeatedPlace, {"place": 0}, Needs, [(0, 0)])

    def test_nothing_else_is_refused(self):
        self.assertEqual(Needs([(1, 2), (2, 1), (1, 2), (1, 3)]).places, (1, 2, 3))

    def test_the_list_may_change_later(self):
        pairs = [(1, 2)]
        rule = Needs(pairs)
        pairs.append((2, 3))
        self.assertEqual(rule.places, (1, 2))
        self.check(True, rule.keeps, {1: 1, 2: 1})
        pairs.clear()
        self.check(False, rule.keeps, {1: 1})


class MatchTest(WatchedCase):
    def test_bars_are_the_values_with_what_is_not_allowed(self):
        rule = Match(7, [1, 2], 4, [5, 6])
        self.assertEqual((rule.places, rule.width), ((7, 4), 2))
        self.check([((4, 3), (7, 2))], rule.bars_in, {7: 2, 4: 3, 1: 1})
        self.check([((4, 0), (7, 1))], rule.bars_in, {7: 1})
        self.check([], rule.bars_in, {7: 1, 4: 6})
        self.check([], rule.bars_in, {7: 3, 4: 9})
        self.check([], rule.bars_in, {})

    def test_the_value_0_in_the_lists(self):
        self.check([((4, 0), (7, 0))], Match(7, [0], 4, [5]).bars_in, {})
        self.check([((4, 3), (7, 0))], Match(7, [0], 4, [5]).bars_in, {4: 3})
        self.check(True, Match(7, [1], 4, [0]).keeps, {7: 1})
        self.check([((4, 9999), (7, 1))], Match(7, [1], 4, [0]).bars_in, {7: 1, 4: 9999})

    def test_duplicates_in_the_lists(self):
        rule = Match(1, [2, 2, 0, 0], 4, [3, 3, 0])
        self.assertEqual(rule.width, 2)
        self.check([((1, 2), (4, 5))], rule.bars_in, {1: 2, 4: 5})
        self.check([((1, 0), (4, 5))], rule.bars_in, {4: 5})
        self.check([], rule.bars_in, {1: 2})

    def test_without_values_there_is_no_bar(self):
        rule = Match(1, [], 4, [3])
        self.assertEqual((rule.places, rule.width), ((1, 4), 0))
        self.check(True, rule.keeps, {1: 2, 4: 5})
        self.check(False, rule.is_bar, ((1, 2), (4, 5)))

    def test_is_bar(self):
        rule = Match(7, [1, 2], 4, [5, 6])
        self.check(True, rule.is_bar, ((4, 0), (7, 1)))
        self.check(True, rule.is_bar, ((4, 9999), (7, 2)))
        for marks in [(), ((7, 1),), ((4, 0),), ((7, 1), (4, 0)), ((4, 5), (7, 1)), ((4, 0), (7, 3)), ((4, 1), (7, 5)),
                      ((4, 0), (8, 1)), ((3, 0), (7, 1)), ((4, 0), (7, 1), (8, 0)), ((4, 0), (4, 1))]:
            self.check(False, rule.is_bar, marks)

    def test_refusals_in_their_order(self):
        self.refuse(RepeatedPlace, {"place": 3}, Match, 3, [1], 3, [1])
        self.refuse(RepeatedPlace, {"place": 3}, Match, 3, [1], 3, [])
        self.refuse(EmptyChoice, {}, Match, 3, [1], 4, [])
        self.refuse(EmptyChoice, {}, Match, 3, [], 4, [])

    def test_the_lists_may_change_later(self):
        values, allowed = [1], [2]
        rule = Match(3, values, 4, allowed)
        values[0], allowed[0] = 8, 9
        self.check(True, rule.keeps, {3: 8})
        self.check(True, rule.keeps, {3: 1, 4: 2})
        self.check(False, rule.keeps, {3: 1, 4: 9})


class OrderTest(WatchedCase):
    def test_the_difference_is_at_least_the_gap(self):
        rule = Order(6, 2, 3)
        self.assertEqual((rule.places, rule.width), ((6, 2), 2))
        self.check([((2, 7), (6, 5))], rule.bars_in, {6: 5, 2: 7, 1: 1})
        self.check(True, rule.keeps, {6: 5, 2: 8})
        self.check(True, rule.keeps, {6: 5, 2: 9})
        self.check(((2, 5), (6, 8)), rule.reason, {6: 8, 2: 5})

    def test_empty_places_keep_it(self):
        for book in [{}, {6: 5}, {2: 1}, {7: 7}]:
            self.check(True, Order(6, 2, 3).keeps, book)
            self.check([], Order(6, 2, 9999).bars_in, book)

    def test_gaps_of_0_and_below(self):
        self.check(True, Order(2, 6, 0).keeps, {2: 5, 6: 5})
        self.check([((2, 5), (6, 4))], Order(2, 6, 0).bars_in, {2: 5, 6: 4})
        self.check(True, Order(2, 6, -2).keeps, {2: 5, 6: 3})
        self.check([((2, 5), (6, 2))], Order(2, 6, -2).bars_in, {2: 5, 6: 2})
        self.check(True, Order(2, 6, -9999).keeps, {2: 9999, 6: 1})

    def test_is_bar(self):
        rule = Order(6, 2, 3)
        self.check(True, rule.is_bar, ((2, 7), (6, 5)))
        for marks in [(), ((2, 7),), ((6, 5), (2, 7)), ((2, 8), (6, 5)), ((2, 0), (6, 5)), ((2, 7), (6, 0)),
                      ((2, 7), (7, 5)), ((2, 7), (6, 5), (7, 1)), ((2, 5), (2, 7))]:
            self.check(False, rule.is_bar, marks)

    def test_equal_places_are_refused(self):
        self.refuse(RepeatedPlace, {"place": 2}, Order, 2, 2, 0)


if __name__ == "__main__":
    unittest.main()
