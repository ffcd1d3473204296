"""Points 3, 8 and 10: Total, AtMost and AtLeast."""

import unittest

from forkedshelves.errors import BadBound, RepeatedPlace
from forkedshelves.sums import AtLeast, AtMost, Total
from tests.helpers import WatchedCase


class TotalTest(WatchedCase):
    def test_the_example_of_the_document(self):
        rule = Total([3, 1, 2], 5)
        book = {1: 2, 2: 3, 3: 4}
        self.assertEqual((rule.places, rule.width), ((3, 1, 2), 3))
        self.check([((1, 2), (3, 4)), ((2, 3), (3, 4))], rule.bars_in, book)
        self.check(((1, 2), (3, 4)), rule.reason, book)

    def test_width_is_the_smaller_one(self):
        widths = [Total([1, 2, 3], high).width for high in (0, 1, 2, 3, 100000)]
        self.assertEqual(widths, [1, 2, 3, 3, 3])
        self.assertEqual(Total([], 5).width, 0)

    def test_shorter_bars_come_first(self):
        rule = Total([1, 2, 3], 4)
        book = {1: 2, 2: 3, 3: 5, 4: 9}
        self.check([((3, 5),), ((1, 2), (2, 3))], rule.bars_in, book)
        self.check(((3, 5),), rule.reason, book)

    def test_both_sides_of_the_bound(self):
        self.check(True, Total([1, 2], 5).keeps, {1: 2, 2: 3, 3: 100})
        self.check(False, Total([1, 2], 5).keeps, {1: 3, 2: 3})
        self.check(True, Total([1, 2], 0).keeps, {3: 1})
        self.check([((1, 1),), ((2, 1),)], Total([2, 1], 0).bars_in, {1: 1, 2: 1})

    def test_is_bar(self):
        rule = Total([3, 1, 2], 5)
        for marks in [((1, 6),), ((1, 5), (2, 1)), ((1, 2), (2, 2), (3, 2))]:
            self.check(True, rule.is_bar, marks)
        for marks in [(), ((1, 5),), ((2, 1), (1, 5)), ((1, 0), (2, 6)), ((1, 6), (2, 1)), ((1, 5), (2, 1), (3, 1)),
                      ((1, 3), (1, 4)), ((1, 5), (4, 1)), ((4, 6),), ((1, 2), (2, 3))]:
            self.check(False, rule.is_bar, marks)

    def test_refusals_in_their_order(self):
        self.refuse(BadBound, {"number": -1}, Total, [1], -1)
        self.refuse(BadBound, {"number": -100}, Total, [], -100)
        self.refuse(RepeatedPlace, {"place": 4}, Total, [4, 5, 4], -1)
        self.refuse(RepeatedPlace, {"place": 5}, Total, [4, 5, 5, 4], 3)

    def test_the_list_may_change_later(self):
        places = [1, 2]
        rule = Total(places, 3)
        places.append(3)
        self.assertEqual(rule.places, (1, 2))
        self.check(True, rule.keeps, {3: 9})
        places.clear()
        self.check(False, rule.keeps, {1: 4})

    def test_ten_places(self):
        book = {place: 1 for place in range(10)}
        self.assertEqual(len(Total(list(range(10)), 4).bars_in(book)), 252)


class AtMostTest(WatchedCase):
    def test_bars_are_sets_of_one_more(self):
        rule = AtMost([7, 3, 5], 1)
        self.assertEqual((rule.places, rule.width), ((7, 3, 5), 2))
        book = {7: 1, 3: 2, 5: 4, 9: 1}
        self.check([((3, 2), (5, 4)), ((3, 2), (7, 1)), ((5, 4), (7, 1))], rule.bars_in, book)
        self.check(((3, 2), (5, 4)), rule.reason, book)
        self.check(True, rule.keeps, {7: 1, 9: 1})
        self.check(False, rule.keeps, {7: 1, 5: 1})

    def test_width_at_both_ends(self):
        self.assertEqual([AtMost([7, 3, 5], many).width for many in (0, 1, 2, 3, 4)], [1, 2, 3, 0, 0])
        self.assertEqual(AtMost([], 0).width, 0)
        self.check(True, AtMost([7, 3], 2).keeps, {7: 1, 3: 1})
        self.check([((3, 1),), ((7, 2),)], AtMost([7, 3], 0).bars_in, {7: 2, 3: 1})

    def test_is_bar(self):
        rule = AtMost([7, 3, 5], 1)
        self.check(True, rule.is_bar, ((3, 1), (7, 9999)))
        for marks in [(), ((3, 1),), ((3, 1), (5, 1), (7, 1)), ((7, 1), (3, 1)), ((3, 0), (5, 1)), ((3, 1), (4, 1)),
                      ((3, 1), (3, 2))]:
            self.check(False, rule.is_bar, marks)
        self.check(False, AtMost([7, 3], 2).is_bar, ((3, 1), (7, 1)))

    def test_refusals_in_their_order(self):
        self.refuse(BadBound, {"number": -1}, AtMost, [1], -1)
        self.refuse(RepeatedPlace, {"place": 4}, AtMost, [4, 4], -1)

    def test_the_list_may_change_later(self):
        places = [1, 2]
        rule = AtMost(places, 0)
        places[:] = [8]
        self.assertEqual(rule.places, (1, 2))
        self.check(False, rule.keeps, {1: 1})
        self.check(True, rule.keeps, {8: 1})


class AtLeastTest(WatchedCase):
    def test_bars_are_sets_of_empty_places(self):
        rule = AtLeast([7, 3, 5], 2)
        self.assertEqual((rule.places, rule.width), ((7, 3, 5), 2))
        self.check([((3, 0), (5, 0)), ((3, 0), (7, 0)), ((5, 0), (7, 0))], rule.bars_in, {9: 1})
        self.check(((3, 0), (7, 0)), rule.reason, {5: 1})
        self.check(True, rule.keeps, {5: 1, 7: 1})
        self.check(False, rule.keeps, {})

    def test_width_at_both_ends(self):
        self.assertEqual([AtLeast([7, 3, 5], many).width for many in (0, 1, 2, 3)], [0, 3, 2, 1])
        self.assertEqual(AtLeast([], 0).width, 0)
        self.check([], AtLeast([7, 3, 5], 0).bars_in, {})
        self.check(True, AtLeast([], 0).keeps, {})
        self.check([((3, 0),), ((5, 0),)], AtLeast([7, 3, 5], 3).bars_in, {7: 1})

    def test_is_bar(self):
        rule = AtLeast([7, 3, 5], 2)
        self.check(True, rule.is_bar, ((3, 0), (7, 0)))
        for marks in [(), ((3, 0),), ((3, 0), (5, 0), (7, 0)), ((7, 0), (3, 0)), ((3, 0), (5, 1)), ((3, 0), (4, 0)),
                      ((3, 0), (3, 0))]:
            self.check(False, rule.is_bar, marks)
        self.check(False, AtLeast([7, 3], 0).is_bar, ((3, 0), (7, 0)))
        self.check(False, AtLeast([], 0).is_bar, ())

    def test_refusals_in_their_order(self):
        self.refuse(BadBound, {"number": -1}, AtLeast, [1], -1)
        self.refuse(BadBound, {"number": 2}, AtLeast, [1], 2)
        self.refuse(BadBound, {"number": 1}, AtLeast, [], 1)
        self.refuse(RepeatedPlace, {"place": 4}, AtLeast, [4, 4], 3)
        self.refuse(RepeatedPlace, {"place": 4}, AtLeast, [4, 4], -1)

    def test_the_list_may_change_later(self):
        places = [1, 2]
        rule = AtLeast(places, 2)
        places.append(3)
        self.assertEqual(rule.places, (1, 2))
        self.check(True, rule.keeps, {1: 1, 2: 1})


if __name__ == "__main__":
    unittest.main()
