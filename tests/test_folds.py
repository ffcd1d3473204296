"""Points 3, 35, 36 and 37: common states, and merges by values alone."""

import random
import unittest
from itertools import product

from forkedshelves.folds import fold, last_common, value_merge
from forkedshelves.history import History
from forkedshelves.pairs import Apart
from forkedshelves.rulebook import RuleBook
from tests.helpers import WatchedCase
from tests.histories import PLACES, HistoryCase, crossing_tips, model_common, model_found, some_nodes


class LastCommonTest(HistoryCase):
    def setUp(self):
        """Two merges of the nodes 1 and 2 that cross, and a node behind each of them."""
        self.history = History(RuleBook([]), {3: 3})
        self.history.write(0, {1: 5})
        self.history.write(0, {2: 6})
        self.history.merge([1, 2])
        self.history.merge([2, 1])
        self.history.write(3, {1: 1})
        self.history.write(4, {2: 0})

    def test_one_last_common_node(self):
        for nodes, expected in [([1, 2], [0]), ([0, 6], [0]), ([5, 3], [3]), ([5, 1], [1]), ([6, 5, 2], [2]),
                                ([1, 6, 2], [0])]:
            self.check_on(self.history, expected, last_common, nodes)

    def test_a_node_and_its_own_past(self):
        for node in self.history:
            self.check_on(self.history, [node], last_common, [node])
            self.check_on(self.history, [node], last_common, [node, node, node])
        self.check_on(self.history, [4], last_common, [4, 6])
        self.check_on(self.history, [1], last_common, [6, 4, 1])

    def test_several_last_common_nodes(self):
        for nodes in ([3, 4], [5, 6], [6, 3], [5, 4, 6, 3]):
            self.check_on(self.history, [1, 2], last_common, nodes)

    def test_missing_nodes(self):
        self.check_missing(self.history, last_common, [5, 6, 0])

    def test_random_histories(self):
        chance = random.Random(35)
        several = 0
        for _ in range(150):
            history, nodes = crossing_tips(chance)
            nodes = nodes + some_nodes(chance, history, 1) * chance.randint(0, 1)
            expected = model_common(history, nodes)
            several += len(expected) > 1
            self.check_on(history, expected, last_common, nodes)
        self.assertGreater(several, 5)


class FoldTest(HistoryCase):
    def crossed(self, first, second, rules=()):
        """A history of two writes on the start."""
        history = History(RuleBook(list(rules)), {1: 5})
        history.write(0, first)
        history.write(0, second)
        return history

    def test_one_last_common_node(self):
        history = self.crossed({2: 2}, {3: 3})
        self.check_on(history, ({1: 5}, {}), fold, [1, 2])
        self.check_on(history, ({1: 5, 2: 2}, {}), fold, [1])
        self.check_on(history, ({1: 5}, {}), fold, [1, 0, 1])

    def test_several_last_common_nodes(self):
        history = self.crossed({2: 2, 1: 0}, {3: 3})
        history.merge([1, 2])
        history.merge([1, 2])
        self.check_on(history, ({2: 2, 3: 3}, {}), fold, [3, 4])

    def test_open_places(self):
        history = self.crossed({2: 2, 4: 4, 7: 1}, {2: 1, 4: 0, 6: 6})
        history.merge([1, 2], answers={2: 8, 4: 8})
        history.merge([1, 2], answers={2: 9, 4: 4})
        self.check_on(history, ({1: 5, 6: 6, 7: 1}, {2: [1, 2], 4: [0, 4]}), fold, [3, 4])
        self.check_on(history, ({1: 5, 6: 6, 7: 1}, {2: [1, 2], 4: [0, 4]}), fold, [4, 3, 4])

    def test_the_book_need_not_be_lawful(self):
        history = self.crossed({2: 2}, {3: 2}, [("unlike", Apart([2, 3]))])
        history.merge([1, 2], answers={2: 1})
        history.merge([1, 2], answers={3: 1})
        self.check_on(history, ({1: 5, 2: 2, 3: 2}, {}), fold, [3, 4])

    def test_missing_nodes(self):
        self.check_missing(self.crossed({2: 2}, {3: 3}), fold, [1, 2, 1])

    def test_random_histories(self):
        chance = random.Random(36)
        opened = 0
        for _ in range(200):
            history, nodes = crossing_tips(chance)
            nodes = nodes + some_nodes(chance, history, 1) * chance.randint(0, 1)
            found = {place: model_found(history, model_common(history, nodes), place) for place in PLACES}
            book = {place: found[place][0] for place in PLACES if len(found[place]) == 1 and found[place][0] > 0}
            several = {place: found[place] for place in PLACES if len(found[place]) > 1}
            opened += bool(several)
            self.check_on(history, (book, several), fold, nodes)
        self.assertGreater(opened, 3)


class ValueMergeTest(WatchedCase):
    def test_places_by_their_kinds(self):
        base = {1: 5, 2: 5, 3: 5, 4: 5, 5: 5, 6: 5}
        first = {1: 5, 2: 7, 3: 5, 4: 7, 5: 7, 6: 5}
        second = {1: 5, 2: 5, 3: 8, 4: 7, 5: 8, 6: 5}
        self.check(({1: 5, 2: 7, 3: 8, 4: 7, 6: 5}, [5]), value_merge, base, [], first, second)
        self.check(({1: 5, 4: 7, 6: 5}, [2, 3, 5]), value_merge, base, [6, 3, 4, 2, 1], first, second)

    def test_empty_places(self):
        self.check(({}, []), value_merge, {1: 5}, [], {1: 5}, {})
        self.check(({}, []), value_merge, {1: 5}, [], {}, {1: 5})
        self.check(({}, []), value_merge, {1: 5}, [], {}, {})
        self.check(({1: 5}, []), value_merge, {}, [], {1: 5}, {})
        self.check(({1: 5}, []), value_merge, {}, [], {}, {1: 5})
        self.check(({}, [1]), value_merge, {1: 4}, [], {}, {1: 5})
        self.check(({}, [1]), value_merge, {1: 4}, [], {1: 6}, {1: 5})
        self.check(({}, []), value_merge, {}, [], {}, {})

    def test_open_places(self):
        # They may occur twice, and no book need have them.
        self.check(({2: 2}, [1]), value_merge, {1: 4, 2: 2}, [1, 99, 1, 0], {1: 4, 2: 2}, {1: 5, 2: 2})
        self.check(({}, [1]), value_merge, {1: 4}, [1], {1: 4}, {})
        self.check(({}, [1]), value_merge, {}, [1], {}, {1: 5})
        self.check(({1: 5}, []), value_merge, {1: 4}, [1], {1: 5}, {1: 5})
        self.check(({}, []), value_merge, {1: 4}, [1, 1], {}, {})

    def test_the_clashing_places_ascend(self):
        places = [250, 0, 7, 31, 2]
        first, second = {place: 1 for place in places}, {place: 2 for place in places}
        self.check(({}, sorted(places)), value_merge, {}, [], first, second)

    def test_all_cases_of_two_places(self):
        for values in product(range(3), repeat=6):
            books = [{place: value for place, value in zip((1, 2), pair) if value > 0}
                     for pair in (values[:2], values[2:4], values[4:])]
            for open_places in ([], [1], [2, 1], [2, 2]):
                merged, clashing = {}, []
                for place in (1, 2):
                    origin, first, second = [book.get(place, 0) for book in books]
                    results = {first} if first == second else set()
                    if first != second and place not in open_places and origin in (first, second):
                        results = {first, second} - {origin}
                    if not results:
                        clashing.append(place)
                    elif max(results) > 0:
                        merged[place] = max(results)
                self.assertEqual(value_merge(books[0], open_places, books[1], books[2]), (merged, clashing))


if __name__ == "__main__":
    unittest.main()
