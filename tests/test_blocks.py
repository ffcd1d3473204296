"""Point 13."""

import random
import unittest

from forkedshelves.blocks import blocks_with, least_cover
from tests.helpers import WatchedCase


def all_blocks(depth):
    """All blocks in ascending order."""
    sizes = [2 ** power for power in range(depth + 1)]
    return sorted((start, size) for size in sizes for start in range(0, 2 ** depth, size))


def inside(block):
    return set(range(block[0], block[0] + block[1]))


def cover_by_force(depth, places):
    """The blocks within the places that are not part of a larger one."""
    within = [block for block in all_blocks(depth) if inside(block) <= set(places)]
    return [block for block in within if not any(inside(block) < inside(other) for other in within)]


class BlocksTest(WatchedCase):
    def test_blocks_with(self):
        self.check([(5, 1), (4, 2), (4, 4), (0, 8)], blocks_with, 3, 5)
        self.check([(0, 1)], blocks_with, 0, 0)
        self.check([(0, 1), (0, 2)], blocks_with, 1, 0)
        self.check([(1, 1), (0, 2)], blocks_with, 1, 1)

    def test_blocks_with_the_first_and_the_last_place(self):
        self.check([(0, 2 ** power) for power in range(9)], blocks_with, 8, 0)
        self.check([(256 - 2 ** power, 2 ** power) for power in range(9)], blocks_with, 8, 255)

    def test_blocks_with_by_force(self):
        for depth in range(6):
            for place in range(2 ** depth):
                expected = [block for block in all_blocks(depth) if place in inside(block)]
                self.assertEqual(blocks_with(depth, place), sorted(expected, key=lambda block: block[1]))

    def test_least_cover(self):
        self.check([(1, 1), (2, 2), (4, 1), (6, 2)], least_cover, 3, [1, 2, 3, 4, 6, 7])
        self.check([(1, 1), (2, 1)], least_cover, 2, [1, 2])
        self.check([(0, 4)], least_cover, 2, [0, 1, 2, 3])

    def test_least_cover_of_no_place_and_of_all(self):
        for depth in range(9):
            self.check([], least_cover, depth, [])
            self.check([(0, 2 ** depth)], least_cover, depth, list(range(2 ** depth)))

    def test_least_cover_of_the_first_and_the_last_place(self):
        self.check([(0, 1)], least_cover, 0, [0])
        self.check([(0, 1), (255, 1)], least_cover, 8, [255, 0])
        self.check([(1, 1), (2, 2), (4, 4), (8, 8), (16, 16), (32, 32), (64, 64), (128, 128)],
                   least_cover, 8, list(range(1, 256)))

    def test_least_cover_of_duplicates_in_any_order(self):
        self.check([(2, 2), (4, 1)], least_cover, 3, [4, 3, 3, 2, 4, 4])
        self.check([(0, 8)], least_cover, 3, [7, 0, 6, 1, 5, 2, 4, 3, 0])

    def test_least_cover_by_force(self):
        for chosen in range(256):
            places = [place for place in range(8) if chosen >> place & 1]
            self.assertEqual(least_cover(3, places), cover_by_force(3, places))
        chance = random.Random(13)
        for _ in range(20):
            places = [place for place in range(64) if chance.random() < 0.8]
            chance.shuffle(places)
            self.assertEqual(least_cover(6, places), cover_by_force(6, places))


if __name__ == "__main__":
    unittest.main()
