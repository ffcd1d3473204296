"""Points 3, 8 and 10: Nest."""

import unittest

from forkedshelves.errors import RepeatedPlace
from forkedshelves.nests import Nest
from tests.helpers import WatchedCase


class NestTest(WatchedCase):
    def test_places_are_numbered_in_the_order_of_the_list(self):
        rule = Nest([9, 4, 6])
        self.assertEqual((rule.places, rule.width), ((9, 4, 6), 3))
        # 9 has the number 1, 4 the number 2: they are each other's parents.
        self.check([((4, 1), (9, 2))], rule.bars_in, {9: 2, 4: 1, 6: 2})
        self.check(((4, 1), (9, 2)), rule.reason, {9: 2, 4: 1})
        self.check(False, rule.keeps, {9: 2, 4: 1})
        self.check(True, rule.keeps, {9: 2, 4: 3})

    def test_a_place_that_is_its_own_parent(self):
        rule = Nest([9, 4, 6])
        self.check([((4, 2),), ((6, 3),), ((9, 1),)], rule.bars_in, {9: 1, 4: 2, 6: 3})
        self.check([((9, 1),)], Nest([9]).bars_in, {9: 1})

    def test_no_parent(self):
        rule = Nest([9, 4, 6])
        self.check(True, rule.keeps, {})
        self.check(True, rule.keeps, {9: 4, 4: 9999, 6: 1, 1: 1})
        self.check(False, rule.is_bar, ((9, 4),))

    def test_shorter_rings_come_first(self):
        rule = Nest([1, 2, 3, 4, 5, 6])
        book = {1: 2, 2: 3, 3: 1, 4: 5, 5: 4, 6: 6}
        self.check([((6, 6),), ((4, 5), (5, 4)), ((1, 2), (2, 3), (3, 1))], rule.bars_in, book)
        self.check(((6, 6),), rule.reason, book)

    def test_what_leads_to_a_ring_is_no_part_of_it(self):
        self.check([((2, 3), (3, 2))], Nest([1, 2, 3]).bars_in, {1: 2, 2: 3, 3: 2})

    def test_is_bar(self):
        rule = Nest([9, 4, 6])
        for marks in [((4, 2),), ((4, 1), (9, 2)), ((4, 3), (6, 1), (9, 2)), ((4, 1), (6, 2), (9, 3))]:
            self.check(True, rule.is_bar, marks)
        for marks in [(), ((4, 0),), ((4, 1),), ((9, 2), (4, 1)), ((4, 2), (9, 1)), ((4, 1), (6, 2), (9, 2)),
                      ((4, 1), (4, 2)), ((3, 1),), ((4, 1), (5, 7), (9, 2)), ((3, 0), (4, 2)), ((4, 3), (6, 1), (9, 1))]:
            self.check(False, rule.is_bar, marks)

    def test_no_places(self):
        rule = Nest([])
        self.assertEqual((rule.places, rule.width), ((), 0))
        self.check(True, rule.keeps, {1: 1})
        self.check([], rule.bars_in, {1: 1})

    def test_the_place_0(self):
        self.check([((0, 2), (7, 1))], Nest([0, 7]).bars_in, {0: 2, 7: 1})
        self.check([((0, 1),)], Nest([0, 7]).bars_in, {0: 1, 7: 1})

    def test_repeated_places(self):
        self.refuse(RepeatedPlace, {"place": 4}, Nest, [9, 4, 4, 9])

    def test_the_list_may_change_later(self):
        places = [9, 4]
        rule = Nest(places)
        places.reverse()
        self.assertEqual(rule.places, (9, 4))
        self.check([((4, 2),), ((9, 1),)], rule.bars_in, {9: 1, 4: 2})


if __name__ == "__main__":
    unittest.main()
