"""Points 2, 65, 66 and 68: items that move."""

import random
import unittest
from itertools import product

from forkedshelves.books import with_writes
from forkedshelves.errors import PlaceClash, PositionClash, RuleClash, ShelfError
from forkedshelves.items import arrange, changing, item_rules, moving, placing, removing
from forkedshelves.pairs import Apart, Needs
from forkedshelves.positions import doubled, merge_positions
from forkedshelves.rulebook import RuleBook
from forkedshelves.twomerge import merge_two
from tests.helpers import WatchedCase


def lawful_books(count, positions, contents):
    """All lawful books of so many items at these positions, with these contents."""
    states = [(0, 0), *product(positions, contents)]
    books = []
    for chosen in product(states, repeat=count):
        standing = [position for position, _ in chosen if position]
        if len(set(standing)) == len(standing):
            places = [(2 * item + side, state[side]) for item, state in enumerate(chosen, start=1) for side in (0, 1)]
            books.append({place: value for place, value in places if value})
    return books


class ItemRulesTest(WatchedCase):
    def test_the_two_rules(self):
        rules = item_rules(3)
        self.assertIs(type(rules), RuleBook)
        (apart_key, apart), (whole_key, whole) = list(rules)
        self.assertEqual([apart_key, type(apart), apart.places], ["apart", Apart, (2, 4, 6)])
        self.assertEqual([whole_key, type(whole), whole.places], ["whole", Needs, (2, 3, 4, 5, 6, 7)])

    def test_one_item(self):
        (_, apart), (_, whole) = list(item_rules(1))
        self.assertEqual([apart.places, apart.width, whole.places, whole.width], [(2,), 0, (2, 3), 2])

    def test_bars(self):
        rules = dict(item_rules(2))
        self.assertTrue(rules["apart"].is_bar(((2, 5), (4, 5))))
        for bar in [((2, 7), (3, 0)), ((2, 0), (3, 7)), ((4, 1), (5, 0)), ((4, 0), (5, 1))]:
            self.assertTrue(rules["whole"].is_bar(bar))
        for bar in [((2, 0), (4, 0)), ((3, 5), (5, 5)), ((2, 5), (5, 0)), ((3, 0), (4, 5))]:
            self.assertFalse(rules["apart"].is_bar(bar) or rules["whole"].is_bar(bar))

    def test_lawful_books(self):
        rules = item_rules(2)
        lawful = lawful_books(2, [1, 2], [1, 2])
        for values in product(range(3), repeat=4):
            book = {place: value for place, value in enumerate(values, start=2) if value}
            self.assertEqual(rules.is_lawful(book), book in lawful)

    def test_fifteen_items_and_some_more(self):
        for count in (15, 20):
            rules = item_rules(count)
            book = {}
            for item in range(1, count + 1):
                book = with_writes(book, placing(item, count + 1 - item, 7))
            self.assertTrue(rules.is_lawful(book))
            self.assertEqual(len(arrange(book, count)), count)
            self.assertEqual(rules.reason(with_writes(book, moving(count, 2))), ("apart", ((2 * count - 2, 2),
                                                                                           (2 * count, 2))))


class ArrangeTest(WatchedCase):
    def test_items_that_stand_somewhere(self):
        self.check({5: (1, 8), 2: (3, 9)}, arrange, {2: 5, 3: 8, 6: 2, 7: 9}, 3)

    def test_no_items(self):
        self.check({}, arrange, {}, 3)

    def test_items_above_the_count_are_left_out(self):
        self.check({5: (1, 8)}, arrange, {2: 5, 3: 8, 6: 2, 7: 9}, 2)
        self.check({}, arrange, {6: 2, 7: 9}, 2)
        self.check({}, arrange, {0: 2, 1: 9, 100: 3}, 4)

    def test_the_four_deeds(self):
        self.check({4: 7, 5: 9}, placing, 2, 7, 9)
        self.check({4: 7}, moving, 2, 7)
        self.check({5: 9}, changing, 2, 9)
        self.check({4: 0, 5: 0}, removing, 2)
        self.check({200: 1, 201: 2}, placing, 100, 1, 2)

    def test_deeds_on_a_book(self):
        book = with_writes({}, placing(1, 4, 9))
        book = with_writes(book, placing(2, 5, 9))
        self.assertEqual(arrange(book, 2), {4: (1, 9), 5: (2, 9)})
        book = with_writes(with_writes(book, moving(1, 6)), changing(2, 3))
        self.assertEqual(arrange(book, 2), {6: (1, 9), 5: (2, 3)})
        book = with_writes(book, removing(1))
        self.assertEqual([book, arrange(book, 2)], [{4: 5, 5: 3}, {5: (2, 3)}])

    def test_all_small_books(self):
        for book in lawful_books(3, [1, 2, 3], [1, 2]):
            expected = {book[2 * item]: (item, book[2 * item + 1]) for item in (1, 2, 3) if 2 * item in book}
            self.assertEqual(arrange(book, 3), expected)


class MergingItemsTest(WatchedCase):
    """Point 66 and 68."""

    def setUp(self):
        self.rules = item_rules(3)
        self.books = lawful_books(3, [1, 2, 3, 4], [1, 2])

    def test_the_example_of_the_document(self):
        base = with_writes({}, placing(1, 4, 9))
        first = with_writes(base, moving(1, 6))
        second = with_writes(base, changing(1, 8))
        self.check({6: (1, 8)}, arrange, merge_two(item_rules(2), base, first, second), 2)

    def test_moving_and_changing_do_not_clash_at_a_place(self):
        base = with_writes({}, placing(2, 4, 9))
        for deeds in [(moving(2, 1), changing(2, 1)), (changing(2, 3), moving(2, 3))]:
            first, second = [with_writes(base, deed) for deed in deeds]
            merged = merge_two(self.rules, base, first, second)
            self.assertEqual(merged, with_writes(first, deeds[1]))
            # Position by position, the item that has moved away clashes with the one whose content has changed.
            with self.assertRaises(PositionClash):
                merge_positions(*[arrange(book, 3) for book in (base, first, second)])

    def test_an_item_moved_to_two_positions(self):
        base = with_writes({}, placing(1, 4, 9))
        first, second = with_writes(base, moving(1, 5)), with_writes(base, moving(1, 6))
        merged = merge_positions(*[arrange(book, 3) for book in (base, first, second)])
        self.assertEqual([merged, doubled(merged)], [{5: (1, 9), 6: (1, 9)}, [1]])
        self.refuse(PlaceClash, {"place": 2, "found": [5, 6]}, merge_two, self.rules, base, first, second)

    def test_two_items_at_one_position(self):
        first, second = with_writes({}, placing(1, 4, 9)), with_writes({}, placing(2, 4, 9))
        self.refuse(RuleClash, {"key": "apart", "bar": ((2, 4), (4, 4))}, merge_two, self.rules, {}, first, second)
        self.refuse(PositionClash, {"position": 4}, merge_positions, {}, {4: (1, 9)}, {4: (2, 9)})

    def random_books(self, chance):
        """A base and two sides, each by a few deeds on it."""
        base = chance.choice(self.books)
        sides = []
        for _ in "ab":
            side = base
            for _ in range(chance.randint(0, 3)):
                item, position, content = chance.randint(1, 3), chance.randint(1, 7), chance.randint(1, 2)
                deed = chance.choice([placing(item, position, content), *[moving(item, position)] * 4,
                                      changing(item, content), removing(item)])
                if self.rules.is_lawful(with_writes(side, deed)):
                    side = with_writes(side, deed)
            sides.append(side)
        return base, *sides

    def test_random_books(self):
        chance = random.Random(68)
        seen = {"clash": 0, "merged": 0, "doubled": 0, "both": 0}
        for _ in range(1500):
            books = self.random_books(chance)
            base, first, second = books
            try:
                merged = merge_positions(*[arrange(book, 3) for book in books])
            except PositionClash:
                seen["clash"] += 1
                continue
            seen["merged"] += 1
            standing = {item for item, _ in merged.values()}
            both = [item for item in (1, 2, 3) if 2 * item in first and 2 * item in second]
            self.assertLessEqual(set(both), standing)
            moved = [item for item in both if len({book.get(2 * item, 0) for book in books}) == 3]
            self.assertEqual(doubled(merged), moved)
            seen["doubled"] += len(moved)
            try:
                book = merge_two(self.rules, *books)
            except ShelfError:
                continue
            seen["both"] += 1
            self.assertEqual([moved, arrange(book, 3)], [[], merged])
        self.assertGreater(min(seen.values()), 50)


if __name__ == "__main__":
    unittest.main()
