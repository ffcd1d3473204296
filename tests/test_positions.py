"""Points 2, 3 and 67: arrangements merged position by position."""

import random
import unittest

from forkedshelves.errors import PositionClash
from forkedshelves.positions import doubled, merge_positions
from tests.helpers import WatchedCase

A, B, C = (1, 5), (2, 5), (1, 6)


def model_merge(base, first, second):
    """The merge, or the lowest position that clashes."""
    merged = {}
    for position in range(1, 6):
        old, own, other = base.get(position), first.get(position), second.get(position)
        if own == other:
            found = own
        elif own == old:
            found = other
        elif other == old:
            found = own
        else:
            return position
        if found:
            merged[position] = found
    return merged


class MergePositionsTest(WatchedCase):
    def test_equal_tuples_on_both_sides(self):
        for base in ({}, {3: A}, {3: B}):
            self.check({3: A}, merge_positions, base, {3: A}, {3: A})

    def test_nothing_on_both_sides(self):
        self.check({}, merge_positions, {3: A}, {}, {})
        self.check({}, merge_positions, {}, {}, {})

    def test_one_side_agrees_with_the_base(self):
        self.check({3: B}, merge_positions, {3: A}, {3: B}, {3: A})
        self.check({3: B}, merge_positions, {3: A}, {3: A}, {3: B})
        self.check({}, merge_positions, {3: A}, {}, {3: A})
        self.check({}, merge_positions, {3: A}, {3: A}, {})
        self.check({3: A}, merge_positions, {}, {3: A}, {})
        self.check({3: A}, merge_positions, {}, {}, {3: A})
        self.check({1: A, 2: B, 9: C}, merge_positions, {2: B}, {1: A, 2: B}, {2: B, 9: C})

    def test_clashes(self):
        for base, first, second in [({}, {3: A}, {3: B}), ({3: A}, {3: B}, {}), ({3: A}, {}, {3: B}),
                                    ({3: A}, {3: B}, {3: C}), ({3: A}, {3: C}, {3: B}), ({}, {3: A}, {3: C})]:
            self.refuse(PositionClash, {"position": 3}, merge_positions, base, first, second)

    def test_the_lowest_position(self):
        self.refuse(PositionClash, {"position": 2}, merge_positions, {9: A}, {7: A, 2: A, 1: B}, {2: B, 7: B, 1: B})
        self.refuse(PositionClash, {"position": 9}, merge_positions, {9: A, 20: A}, {9: B, 20: B, 1: A}, {})
        self.refuse(PositionClash, {"position": 30}, merge_positions, {}, {200: A, 30: A}, {30: B, 200: B, 5: A})

    def test_an_item_moved_to_two_positions(self):
        self.check({5: A, 6: A}, merge_positions, {4: A}, {5: A}, {6: A})
        self.check({5: A, 6: A}, merge_positions, {}, {5: A}, {6: A})

    def test_random_arrangements(self):
        chance = random.Random(67)
        ends = [0, 0]
        for _ in range(2000):
            sides = [{position: chance.choice([A, B, C]) for position in range(1, 6) if chance.random() < 0.4}
                     for _ in "abc"]
            for side in sides[1:]:
                for position in range(1, 6):
                    if chance.random() < 0.5:
                        side.pop(position, None)
                        side.update({position: sides[0][position]} if position in sides[0] else {})
            expected = model_merge(*sides)
            ends[isinstance(expected, int)] += 1
            if isinstance(expected, int):
                self.refuse(PositionClash, {"position": expected}, merge_positions, *sides)
            else:
                self.check(expected, merge_positions, *sides)
        self.assertGreater(min(ends), 300)


class DoubledTest(WatchedCase):
    def test_doubled(self):
        self.check([], doubled, {})
        self.check([], doubled, {4: A, 5: B})
        self.check([1], doubled, {4: A, 5: A})
        self.check([1], doubled, {4: A, 5: C, 6: B})
        self.check([2, 7, 11], doubled, {9: (11, 1), 1: (7, 1), 2: (2, 2), 3: (2, 1), 4: (7, 1), 5: (11, 9), 6: (11, 1)})

    def test_the_same_content_of_two_items_is_not_doubled(self):
        self.check([], doubled, {1: (1, 5), 2: (2, 5), 5: (3, 1)})


if __name__ == "__main__":
    unittest.main()
