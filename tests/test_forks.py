"""Points 2, 3, 43, 44, 45 and 46: forks and their parts."""

import random
import unittest

from forkedshelves.errors import NotChanged, TooWide, Unlawful
from forkedshelves.forks import Fork, Part
from forkedshelves.listed import Ban
from forkedshelves.pairs import Apart, Needs, Order
from forkedshelves.rulebook import RuleBook
from forkedshelves.sums import AtMost, Total
from tests.forkcases import model_book, model_changed, model_parts, model_smallest, random_fork_pair
from tests.helpers import WatchedCase, spoil


def places_of(parts):
    return [part.places for part in parts]


class ForkTest(WatchedCase):
    def setUp(self):
        self.rules = RuleBook([("unlike", Apart([1, 2])), ("link", Needs([(3, 1), (4, 3)]))])

    def test_the_changed_places(self):
        fork = Fork(self.rules, {1: 5, 2: 6, 8: 8}, {1: 5, 2: 7, 3: 1, 9: 1})
        self.assertEqual(fork.places, (2, 3, 8, 9))
        self.assertEqual(Fork(self.rules, {7: 1, 300: 2, 0: 1}, {}).places, (0, 7, 300))

    def test_a_fork_without_changes(self):
        for book in ({}, {1: 5}):
            fork = Fork(self.rules, book, dict(book))
            self.assertEqual([fork.places, fork.needs(), fork.road()], [(), [], []])
            self.assertEqual(places_of([fork.whole(), fork.part([]), fork.inside([])]), [(), (), ()])
            self.assertEqual(places_of(fork.all_parts()), [()])
            self.assertEqual(fork.whole().book(), book)

    def test_too_wide(self):
        wide = RuleBook([("unlike", Apart([1, 2])), ("total", Total([4, 5, 6], 8)), ("wider", AtMost([4, 5, 6, 7], 3))])
        self.refuse(TooWide, {"key": "total"}, Fork, wide, {}, {})
        # It comes before the books that are not lawful.
        self.refuse(TooWide, {"key": "total"}, Fork, wide, {1: 4, 2: 4}, {1: 4, 2: 4})
        self.refuse(TooWide, {"key": "ban"}, Fork, RuleBook([("ban", Ban([[(1, 1)], [(2, 1), (3, 1), (4, 1)]]))]),
                    {}, {1: 1})

    def test_rules_that_are_narrow_enough(self):
        rules = RuleBook([("total", Total([1, 2, 3], 1)), ("none", Total([4, 5], 0)), ("ban", Ban([[(7, 7)]]))])
        self.assertEqual(Fork(rules, {}, {1: 1}).places, (1,))

    def test_unlawful_books(self):
        unlike, link = ((1, 4), (2, 4)), ((1, 0), (3, 2))
        self.refuse(Unlawful, {"key": "link", "bar": link}, Fork, self.rules, {3: 2}, {1: 4, 2: 4})
        self.refuse(Unlawful, {"key": "unlike", "bar": unlike}, Fork, self.rules, {}, {1: 4, 2: 4})
        self.refuse(Unlawful, {"key": "unlike", "bar": unlike}, Fork, self.rules, {1: 4, 2: 4}, {1: 4, 2: 4})

    def test_books_that_were_passed_may_be_changed(self):
        base, book = {1: 5}, {1: 6, 2: 5}
        fork = Fork(self.rules, base, book)
        part = fork.part([1])
        for passed in (base, book):
            passed[1] = 9
            spoil(passed)
        self.assertEqual([fork.whole().book(), part.book(), fork.part([]).book()], [{1: 6, 2: 5}, {1: 6}, {1: 5}])


class NeedsTest(WatchedCase):
    def test_needs(self):
        rules = RuleBook([("unlike", Apart([1, 2])), ("link", Needs([(3, 1), (4, 3)]))])
        self.check([(3, 1), (4, 3)], Fork(rules, {}, {1: 4, 3: 9, 4: 1}).needs)
        self.check([], Fork(rules, {1: 4}, {1: 5, 3: 9}).needs)
        self.check([(1, 3), (3, 4)], Fork(rules, {1: 4, 3: 9, 4: 1}, {}).needs)
        self.check([(1, 2), (2, 1)], Fork(rules, {1: 4, 2: 5}, {1: 5, 2: 4}).needs)
        self.check([(2, 1)], Fork(rules, {1: 4}, {1: 5, 2: 4}).needs)

    def test_needs_by_several_rules_are_listed_once(self):
        rules = RuleBook([("link", Needs([(3, 1)])), ("again", Needs([(3, 1), (3, 1)]))])
        self.check([(3, 1)], Fork(rules, {}, {1: 4, 3: 9}).needs)

    def test_only_changed_places_need(self):
        # The mark of place 2, which is not changed, and the mark of place 1 in the base are no bar of a lawful base.
        rules = RuleBook([("order", Order(1, 2, 1))])
        self.check([], Fork(rules, {1: 4, 2: 9}, {1: 8, 2: 9}).needs)
        self.check([(1, 2)], Fork(rules, {1: 4, 2: 5}, {1: 8, 2: 9}).needs)

    def test_a_ring_of_needs(self):
        rules = RuleBook([("ring", Needs([(1, 2), (2, 3), (3, 1), (9, 2)]))])
        fork = Fork(rules, {}, {1: 1, 2: 1, 3: 1, 9: 1})
        self.check([(1, 2), (2, 3), (3, 1), (9, 2)], fork.needs)
        self.assertEqual(places_of(fork.all_parts()), [(), (1, 2, 3), (1, 2, 3, 9)])
        self.assertEqual(places_of([fork.part([2]), fork.part([9]), fork.inside([1, 2, 9])]),
                         [(1, 2, 3), (1, 2, 3, 9), ()])
        self.check([[1, 2, 3], [9]], fork.road)

    def test_random_forks(self):
        chance = random.Random(44)
        needed = 0
        for _ in range(300):
            rules, base, book, _, fork, _ = random_fork_pair(chance)
            changed = model_changed(base, book)
            expected = [(x, y) for x in changed for y in changed if x != y
                        and rules.bars_with((x, book.get(x, 0)), (y, base.get(y, 0)))]
            needed += len(expected)
            self.check(expected, fork.needs)
            self.assertEqual(fork.places, tuple(changed))
        self.assertGreater(needed, 100)


class PartTest(WatchedCase):
    def setUp(self):
        self.rules = RuleBook([("link", Needs([(3, 1), (4, 3), (6, 5)]))])
        self.fork = Fork(self.rules, {8: 8}, {1: 1, 3: 3, 4: 4, 5: 5, 6: 6})

    def test_the_smallest_part(self):
        part = self.call(self.fork.part, [3])
        self.assertIs(type(part), Part)
        self.assertEqual(part.places, (1, 3))
        for places, expected in [([], ()), ([4], (1, 3, 4)), ([6, 1, 6], (1, 5, 6)), ([8, 5, 5], (5, 8)),
                                 ([6, 4, 8], (1, 3, 4, 5, 6, 8))]:
            self.assertEqual(self.call(self.fork.part, places).places, expected)

    def test_the_largest_part_inside(self):
        self.assertIs(type(self.fork.inside([3])), Part)
        for places, expected in [([], ()), ([3], ()), ([4, 3], ()), ([4, 1], (1,)), ([3, 1, 3], (1, 3)),
                                 ([6, 8, 8], (8,)), ([6, 5, 4, 3, 1], (1, 3, 4, 5, 6))]:
            self.assertEqual(self.call(self.fork.inside, places).places, expected)

    def test_places_that_are_not_changed(self):
        for method in (self.fork.part, self.fork.inside):
            self.refuse(NotChanged, {"place": 2}, method, [2])
            self.refuse(NotChanged, {"place": 7}, method, [4, 1, 7, 2, 7])
            self.refuse(NotChanged, {"place": 300}, method, [300, 2])

    def test_the_whole(self):
        whole = self.fork.whole()
        self.assertEqual([whole.places, whole.book()], [(1, 3, 4, 5, 6, 8), {1: 1, 3: 3, 4: 4, 5: 5, 6: 6}])

    def test_books(self):
        self.check({8: 8}, self.fork.part([]).book)
        self.check({1: 1, 3: 3, 8: 8}, self.fork.part([3]).book)
        self.check({5: 5}, self.fork.part([8, 5]).book)

    def test_unions_and_intersections(self):
        first, second = self.fork.part([3, 8]), self.fork.part([6, 1])
        self.assertEqual(places_of([first | second, first & second, second | first, second & first]),
                         [(1, 3, 5, 6, 8), (1,), (1, 3, 5, 6, 8), (1,)])
        self.assertIs(type(first | second), Part)
        self.assertIs(type(first & second), Part)
        self.assertEqual([(first | second).book(), (first & second).book()],
                         [{1: 1, 3: 3, 5: 5, 6: 6}, {1: 1, 8: 8}])
        empty = self.fork.part([])
        self.assertEqual(places_of([first | empty, first & empty, empty | empty]), [(1, 3, 8), (), ()])
        self.assertEqual(places_of([first, second]), [(1, 3, 8), (1, 5, 6)])

    def test_within(self):
        first, second = self.fork.part([3]), self.fork.part([4])
        self.assertEqual([first.within(second), second.within(first), first.within(first)], [True, False, True])
        empty = self.fork.part([])
        self.assertEqual([empty.within(first), first.within(empty), empty.within(empty)], [True, False, True])
        self.assertFalse(self.fork.part([5]).within(first))

    def test_in_and_iterating(self):
        part = self.fork.part([8, 3])
        self.assertEqual([place for place in range(10) if place in part], [1, 3, 8])
        self.assertIs(3 in part, True)
        self.assertIs(-1 in part, False)
        self.assertEqual([list(part), list(part), list(self.fork.part([]))], [[1, 3, 8], [1, 3, 8], []])

    def test_all_parts_in_order(self):
        parts = self.fork.all_parts()
        self.assertEqual(places_of(parts)[:6], [(), (1,), (5,), (8,), (1, 3), (1, 5)])
        self.assertEqual(len(parts), 24)
        self.assertEqual(places_of(parts), model_parts(self.rules, {8: 8}, {1: 1, 3: 3, 4: 4, 5: 5, 6: 6}))
        self.assertTrue(all(type(part) is Part for part in parts))
        self.check_new(lambda: places_of(self.fork.all_parts()))
        self.fork.all_parts().clear()
        self.assertEqual(len(self.fork.all_parts()), 24)

    def test_eight_changes_and_some_more(self):
        for many in (8, 10):
            fork = Fork(RuleBook([]), {}, {place: 1 for place in range(many)})
            self.assertEqual(len(fork.all_parts()), 1 << many)

    def test_random_forks(self):
        """Against all sets of changed places whose books are lawful."""
        chance = random.Random(45)
        for _ in range(150):
            rules, base, book, _, fork, _ = random_fork_pair(chance)
            parts = model_parts(rules, base, book)
            found = fork.all_parts()
            self.assertEqual(places_of(found), parts)
            for part in found:
                self.assertEqual(part.book(), model_book(base, book, part.places))
            changed = model_changed(base, book)
            for _ in range(5):
                places = [chance.choice(changed) for _ in range(chance.randint(0, 4))] if changed else []
                self.assertEqual(self.call(fork.part, places).places, model_smallest(parts, places))
                inside = max([part for part in parts if set(part) <= set(places)], key=len)
                self.assertEqual(self.call(fork.inside, places).places, inside)
                first, second = chance.choice(found), chance.choice(found)
                both = set(first.places) & set(second.places)
                self.assertEqual((first | second).places, tuple(sorted({*first.places, *second.places})))
                self.assertEqual((first & second).places, tuple(sorted(both)))
                self.assertEqual(first.within(second), len(both) == len(first.places))
                self.assertIn((first | second).places, parts)
                self.assertIn((first & second).places, parts)


class RoadTest(WatchedCase):
    def test_classes_in_order(self):
        rules = RuleBook([("link", Needs([(1, 9), (9, 1), (2, 8), (7, 1)]))])
        self.check([[1, 9], [7], [8], [2]], Fork(rules, {}, {1: 1, 9: 9, 2: 2, 8: 8, 7: 7}).road)

    def test_the_class_with_the_lowest_place_comes_next(self):
        self.check([[1], [2], [5], [30]], Fork(RuleBook([]), {}, {30: 1, 1: 1, 5: 1, 2: 1}).road)
        rules = RuleBook([("link", Needs([(1, 6), (0, 7)]))])
        self.check([[5], [6], [1], [7], [0]], Fork(rules, {}, {0: 1, 1: 1, 5: 1, 6: 1, 7: 1}).road)

    def test_a_class_whose_lowest_place_is_not_the_one_that_others_need(self):
        rules = RuleBook([("link", Needs([(2, 9), (9, 2), (1, 9)]))])
        self.check([[2, 9], [1]], Fork(rules, {}, {1: 1, 2: 2, 9: 9}).road)

    def random_chain(self, chance, parts):
        """Parts from the empty one to the whole, each contained in the next one, with nothing to put between."""
        chain = [()]
        while chain[-1] != parts[-1]:
            larger = [part for part in parts if set(chain[-1]) < set(part)]
            next_ones = [part for part in larger if not any(set(other) < set(part) for other in larger)]
            chain.append(chance.choice(next_ones))
        return chain

    def test_random_forks(self):
        chance = random.Random(46)
        longest = 0
        for _ in range(150):
            rules, base, book, _, fork, _ = random_fork_pair(chance)
            parts = model_parts(rules, base, book)
            smallest = {place: model_smallest(parts, [place]) for place in fork.places}
            rows, placed = [], []
            while len(placed) < len(fork.places):
                classes = [[other for other in fork.places if smallest[other] == smallest[place]]
                           for place in fork.places if place not in placed]
                ready = [row for row in classes if tuple(sorted(placed + row)) in parts]
                rows.append(min(ready))
                placed.extend(min(ready))
            self.check(rows, fork.road)
            longest = max([longest, *[len(row) for row in rows]])
            for _ in range(3):
                self.assertEqual(len(self.random_chain(chance, parts)), len(rows) + 1)
        self.assertGreater(longest, 1)

    def test_thirty_changes(self):
        chain = [(place, place + 1) for place in range(29)]
        fork = Fork(RuleBook([("link", Needs(chain))]), {}, {place: 1 for place in range(30)})
        self.check([[place] for place in range(29, -1, -1)], fork.road)
        every = [(first, second) for first in range(30) for second in range(30) if first != second]
        ring = Fork(RuleBook([("link", Needs(every))]), {}, {place: 1 for place in range(30)})
        self.check([list(range(30))], ring.road)
        self.assertEqual(ring.needs(), every)


if __name__ == "__main__":
    unittest.main()
