"""Points 2 and 56: the most pairs of which no two meet, and the fewest places that meet every pair."""

import random
import unittest
from functools import partial
from itertools import product

from forkedshelves.matching import most_disjoint
from tests.forkcases import subsets
from tests.helpers import WatchedCase

FAVOURS = {favour: partial(most_disjoint, favour=favour) for favour in ("first", "second")}


def are_disjoint(pairs):
    return len({x for x, _ in pairs}) == len(pairs) == len({y for _, y in pairs})


def smallest_givings(pairs):
    """All smallest pairs of sets of first and of second places that meet every pair."""
    # For each set of first places, the second places of the other pairs have to be given, and no more are needed.
    givings = [(set(firsts), {y for x, y in pairs if x not in firsts}) for firsts in subsets(sorted({x for x, _ in pairs}))]
    least = min(len(firsts) + len(seconds) for firsts, seconds in givings)
    return [giving for giving in givings if sum(map(len, giving)) == least]


class MostDisjointTest(WatchedCase):
    def check_pairs(self, pairs):
        """Check both favours against the words of the point."""
        for favour, function in FAVOURS.items():
            given_first, given_second, chosen = self.call(function, pairs)
            self.assertEqual([type(given_first), type(given_second), type(chosen)], [list] * 3)
            self.assertLessEqual(set(chosen), set(pairs))
            self.assertTrue(are_disjoint(chosen))
            self.assertEqual([given_first, given_second], [sorted(set(given_first)), sorted(set(given_second))])
            self.assertTrue(all(x in given_first or y in given_second for x, y in pairs))
            self.assertEqual(len(given_first) + len(given_second), len(chosen))
            self.check_new(function, pairs)
        self.assertEqual(most_disjoint(pairs), most_disjoint(pairs, favour="first"))

    def check_favours(self, pairs):
        """Check both favours against all smallest givings."""
        givings = smallest_givings(pairs)
        first, second = [function(pairs) for function in FAVOURS.values()]
        for found in (first, second):
            self.assertIn((set(found[0]), set(found[1])), givings)
        for firsts, seconds in givings:
            self.assertTrue(set(first[0]) <= firsts and set(first[1]) >= seconds)
            self.assertTrue(set(second[0]) >= firsts and set(second[1]) <= seconds)

    def check_given(self, pairs, favour_first, favour_second):
        self.check_pairs(pairs)
        self.check_favours(pairs)
        self.assertEqual(FAVOURS["first"](pairs)[:2], favour_first)
        self.assertEqual(FAVOURS["second"](pairs)[:2], favour_second)

    def test_no_pairs(self):
        for function in FAVOURS.values():
            self.check(([], [], []), function, [])

    def test_one_pair_and_the_same_pair_twice(self):
        for pairs in ([(4, 7)], [(4, 7), (4, 7)]):
            self.check_given(pairs, ([], [7]), ([4], []))
            for function in FAVOURS.values():
                self.assertEqual(function(pairs)[2], [(4, 7)])

    def test_the_same_number_on_both_sides(self):
        self.check_given([(4, 4)], ([], [4]), ([4], []))
        self.check_given([(1, 2), (2, 1)], ([], [1, 2]), ([1, 2], []))

    def test_one_first_place_with_many_second_places(self):
        self.check_given([(3, y) for y in range(9, 0, -1)], ([3], []), ([3], []))

    def test_many_first_places_with_one_second_place(self):
        self.check_given([(x, 3) for x in range(9, 0, -1)], ([], [3]), ([], [3]))

    def test_chains(self):
        chain = [(1, 1), (2, 1), (2, 2), (3, 2), (3, 3)]
        self.check_given(chain, ([], [1, 2, 3]), ([1, 2, 3], []))
        self.check_given(chain + [(4, 3)], ([], [1, 2, 3]), ([], [1, 2, 3]))
        self.check_given(chain[1:], ([2, 3], []), ([2, 3], []))
        self.check_given(chain[1:4], ([], [1, 2]), ([2, 3], []))

    def test_several_components(self):
        stars = [(1, y) for y in (5, 6, 7)] + [(x, 8) for x in (2, 3, 4)] + [(9, 9)]
        self.check_given(stars, ([1], [8, 9]), ([1, 9], [8]))

    def test_a_choice_that_has_to_be_changed(self):
        self.check_given([(1, 1), (1, 2), (2, 1)], ([], [1, 2]), ([1, 2], []))
        self.check_given([(1, 1), (1, 2), (2, 1), (2, 2), (3, 1)], ([], [1, 2]), ([], [1, 2]))

    def test_all_pairs_of_three_places_each(self):
        grid = list(product(range(3), repeat=2))
        for pairs in subsets(grid):
            self.check_favours(list(pairs))
            given_first, given_second, chosen = most_disjoint(list(pairs))
            longest = max(len(some) for some in subsets(pairs) if are_disjoint(some)) if len(pairs) < 6 else len(chosen)
            self.assertEqual(len(chosen), longest)
            self.assertEqual(len(given_first) + len(given_second), longest)

    def test_random_pairs(self):
        chance = random.Random(56)
        for _ in range(300):
            pairs = [(chance.randrange(6), chance.randrange(6)) for _ in range(chance.randint(0, 9))]
            self.check_pairs(pairs)
            self.check_favours(pairs)
            longest = max(len(some) for some in subsets(sorted(set(pairs))) if are_disjoint(some))
            self.assertEqual(len(most_disjoint(pairs)[2]), longest)

    def test_the_order_of_the_pairs_does_not_matter_for_what_is_given(self):
        chance = random.Random(561)
        for _ in range(50):
            pairs = [(chance.randrange(8), chance.randrange(8)) for _ in range(20)]
            shuffled = chance.sample(pairs, len(pairs))
            for function in FAVOURS.values():
                self.assertEqual(function(pairs)[:2], function(shuffled)[:2])

    def test_nine_hundred_pairs(self):
        every = list(range(30))
        full = list(product(every, every))
        self.check_pairs(full)
        self.assertEqual(FAVOURS["first"](full)[:2], ([], every))
        self.assertEqual(FAVOURS["second"](full)[:2], (every, []))
        half = [(x, y) for x, y in full if x >= y]
        self.check_pairs(half)
        self.assertEqual(FAVOURS["first"](half)[2], [(x, x) for x in every])
        narrow = [(x, y) for x, y in full if x < 4 or y < 7]
        self.check_pairs(narrow)
        self.assertEqual(FAVOURS["first"](narrow)[:2], ([0, 1, 2, 3], [0, 1, 2, 3, 4, 5, 6]))

    def test_somewhat_more_pairs(self):
        chain = [(x, y) for x in range(150) for y in (x, x + 1)]
        self.check_pairs(chain[:-1])
        self.check_pairs(chain[::-1])
        self.check_pairs(list(product(range(35), range(35))))

    def test_sparse_pairs_of_many_places(self):
        chance = random.Random(562)
        for _ in range(30):
            pairs = [(chance.randrange(30), chance.randrange(30)) for _ in range(chance.randint(20, 90))]
            self.check_pairs(pairs)


if __name__ == "__main__":
    unittest.main()
