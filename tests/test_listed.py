"""Points 3, 8 and 10: Ban."""

import unittest

from forkedshelves.errors import EmptyBar, RepeatedPlace
from forkedshelves.listed import Ban
from tests.helpers import WatchedCase


class BanTest(WatchedCase):
    def test_bars_are_the_entries_in_ascending_order_of_their_marks(self):
        rule = Ban([[(8, 1), (2, 3)], ((5, 0), (1, 1), (3, 2))])
        self.assertEqual((rule.places, rule.width), ((1, 2, 3, 5, 8), 3))
        self.check([((2, 3), (8, 1)), ((1, 1), (3, 2), (5, 0))], rule.bars_in, {2: 3, 8: 1, 1: 1, 3: 2, 9: 9})
        self.check(((2, 3), (8, 1)), rule.reason, {2: 3, 8: 1, 1: 1, 3: 2})
        self.check(((1, 1), (3, 2), (5, 0)), rule.reason, {8: 1, 1: 1, 3: 2})
        self.check(None, rule.reason, {8: 1, 1: 1, 3: 2, 5: 1})

    def test_entries_that_contain_a_shorter_one_are_left_out(self):
        rule = Ban([[(1, 1), (2, 2), (9, 9)], [(2, 2), (1, 1)], [(7, 7), (1, 1)]])
        self.assertEqual((rule.places, rule.width), ((1, 2, 7), 2))
        self.check(False, rule.is_bar, ((1, 1), (2, 2), (9, 9)))
        self.check([((1, 1), (2, 2))], rule.bars_in, {1: 1, 2: 2, 9: 9})

    def test_entries_that_share_only_some_marks_stay(self):
        rule = Ban([[(1, 1), (2, 2), (9, 9)], [(2, 2), (1, 3)], [(9, 9), (4, 0)]])
        self.assertEqual((rule.places, rule.width), ((1, 2, 4, 9), 3))
        self.check(True, rule.is_bar, ((1, 1), (2, 2), (9, 9)))

    def test_places_are_ascending(self):
        rule = Ban([[(64, 1), (9, 1)], [(200, 1), (33, 1)], [(255, 1), (8, 1), (1, 0)]])
        self.assertEqual(rule.places, (1, 8, 9, 33, 64, 200, 255))

    def test_equal_entries_count_once(self):
        rule = Ban([[(2, 2), (1, 1)], ((1, 1), (2, 2)), [(1, 1), (2, 2)]])
        self.check([((1, 1), (2, 2))], rule.bars_in, {1: 1, 2: 2})
        self.assertEqual((rule.places, rule.width), ((1, 2), 2))

    def test_bars_without_a_mark_in_common(self):
        rule = Ban([[(3, 1), (4, 1)], [(1, 1), (2, 1)], [(5, 1)]])
        book = {place: 1 for place in range(6)}
        self.check([((5, 1),), ((1, 1), (2, 1)), ((3, 1), (4, 1))], rule.bars_in, book)

    def test_no_bars(self):
        rule = Ban([])
        self.assertEqual((rule.places, rule.width), ((), 0))
        self.check(True, rule.keeps, {1: 1})
        self.check(None, rule.reason, {})
        self.check(False, rule.is_bar, ())

    def test_is_bar(self):
        rule = Ban([[(2, 2), (1, 1)], [(3, 0)]])
        self.check(True, rule.is_bar, ((1, 1), (2, 2)))
        self.check(True, rule.is_bar, ((3, 0),))
        for marks in [(), ((2, 2), (1, 1)), ((1, 1),), ((2, 2),), ((1, 1), (2, 3)), ((1, 1), (2, 2), (3, 0)),
                      ((1, 1), (1, 1)), ((1, 1), (2, 2), (4, 1)), ((3, 1),)]:
            self.check(False, rule.is_bar, marks)

    def test_refusals_entry_by_entry(self):
        self.refuse(EmptyBar, {"position": 1}, Ban, [[(1, 1)], [], [(2, 1), (2, 2)], ()])
        self.refuse(EmptyBar, {"position": 0}, Ban, [()])
        self.refuse(RepeatedPlace, {"place": 2}, Ban, [[(1, 1)], [(3, 1), (2, 1), (2, 2), (3, 2)], []])
        self.refuse(RepeatedPlace, {"place": 4}, Ban, [[(4, 1), (4, 1)]])
        self.refuse(RepeatedPlace, {"place": 4}, Ban, [[(5, 1)], [(4, 1), (5, 1), (4, 2)]])

    def test_a_place_may_stand_in_several_entries(self):
        self.assertEqual(Ban([[(1, 1)], [(1, 2)]]).places, (1,))

    def test_the_lists_may_change_later(self):
        bars = [[(1, 1), (2, 2)], [(3, 3)]]
        rule = Ban(bars)
        bars[0].append((4, 4))
        bars.pop()
        self.assertEqual(rule.places, (1, 2, 3))
        self.check([((3, 3),), ((1, 1), (2, 2))], rule.bars_in, {1: 1, 2: 2, 3: 3})

    def test_forty_bars_of_ten_marks(self):
        bars = [[(place, number) for place in range(10)] for number in range(1, 41)]
        rule = Ban(bars)
        self.assertEqual((rule.places, rule.width), (tuple(range(10)), 10))
        self.check([tuple(bars[6])], rule.bars_in, dict(bars[6]))


if __name__ == "__main__":
    unittest.main()
