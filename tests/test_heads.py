"""Points 3, 29, 30 and 31: what a list of nodes shows."""

import random
import unittest

from forkedshelves.errors import NoNode, PlaceClash, RuleClash
from forkedshelves.heads import clash_of, found_values, heads, merged_book, past
from forkedshelves.history import History
from forkedshelves.pairs import Apart, Needs
from forkedshelves.rulebook import RuleBook
from tests.histories import PLACES, HistoryCase, model_clash, model_found, model_heads, model_past
from tests.histories import random_history, some_nodes


class ExampleTest(HistoryCase):
    def test_the_example_of_the_document(self):
        history = History(RuleBook([]), {1: 5})
        first = history.write(0, {1: 7})
        second = history.write(0, {2: 3})
        third = history.write(second, {1: 8})
        self.check_on(history, {1: 7, 2: 3}, merged_book, [first, second])
        self.check_on(history, [7, 8], found_values, [first, third], 1)


class PastTest(HistoryCase):
    def setUp(self):
        self.history = History(RuleBook([]), {})
        for parent in (0, 0, 1, 2):
            self.history.write(parent, {parent: 1})
        self.history.merge([4, 3, 4])
        self.history.write(1, {9: 1})

    def test_the_past(self):
        for nodes, expected in [([0], [0]), ([1], [0, 1]), ([3], [0, 1, 3]), ([5], [0, 1, 2, 3, 4, 5]),
                                ([6], [0, 1, 6]), ([3, 2], [0, 1, 2, 3]), ([6, 0, 6], [0, 1, 6]),
                                ([6, 5], [0, 1, 2, 3, 4, 5, 6])]:
            self.check_on(self.history, expected, past, nodes)

    def test_missing_nodes(self):
        self.check_missing(self.history, past, [2, 1, 2])


class HeadsTest(HistoryCase):
    def setUp(self):
        self.history = History(RuleBook([]), {1: 5})

    def test_places_that_nobody_but_the_start_writes(self):
        self.history.write(0, {2: 2})
        for nodes in ([0], [1], [1, 0, 1]):
            self.check_on(self.history, [0], heads, nodes, 1)
            self.check_on(self.history, [5], found_values, nodes, 1)
            self.check_on(self.history, [0], heads, nodes, 3)
            self.check_on(self.history, [0], found_values, nodes, 3)

    def test_a_place_that_somebody_writes_elsewhere(self):
        self.history.write(0, {3: 3})
        self.history.write(0, {2: 2})
        self.check_on(self.history, [0], heads, [2], 3)
        self.check_on(self.history, [0], found_values, [2, 0], 3)
        self.check_on(self.history, [1], heads, [2, 1], 3)

    def test_writers_that_write_the_same_value(self):
        history = self.history
        for value in (7, 7, 0):
            history.write(0, {1: value})
        self.check_on(history, [1, 2], heads, [2, 1], 1)
        self.check_on(history, [7], found_values, [2, 1], 1)
        self.check_on(history, [1, 2, 3], heads, [2, 1, 3], 1)
        self.check_on(history, [0, 7], found_values, [2, 1, 3], 1)

    def test_a_writer_that_has_overwritten_another_one(self):
        history = self.history
        history.write(0, {1: 7})
        history.write(1, {2: 2})
        history.write(2, {1: 8})
        self.check_on(history, [1], heads, [2], 1)
        for nodes in ([3], [1, 3], [3, 2, 0]):
            self.check_on(history, [3], heads, nodes, 1)
            self.check_on(history, [8], found_values, nodes, 1)

    def test_a_write_that_changes_nothing_is_a_write(self):
        self.history.write(0, {1: 5})
        self.history.write(0, {1: 6})
        self.check_on(self.history, [1], heads, [1, 0], 1)
        self.check_on(self.history, [5, 6], found_values, [2, 1], 1)

    def test_merges_write_their_answers_only(self):
        history = self.history
        history.write(0, {1: 7, 2: 2})
        history.write(0, {1: 6})
        history.merge([1, 2], answers={1: 6})
        history.merge([1, 0])
        self.check_on(history, [3], heads, [3], 1)
        self.check_on(history, [1], heads, [3], 2)
        self.check_on(history, [1], heads, [4], 1)
        self.check_on(history, [3], heads, [4, 3, 2], 1)

    def test_several_sides_and_a_side_that_has_seen_two(self):
        history = self.history
        tips = [history.write(0, {1: value}) for value in (7, 8, 9)]
        knowing = history.merge(tips[:2], answers={1: 3})
        self.check_on(history, tips, heads, tips, 1)
        self.check_on(history, [3, knowing], heads, [*tips, knowing], 1)
        self.check_on(history, [3, 9], found_values, [*tips, knowing], 1)

    def test_repeated_nodes(self):
        self.history.write(0, {1: 7})
        self.check_on(self.history, [1], heads, [1, 1, 1], 1)
        self.check_on(self.history, [7], found_values, [1, 1, 1], 1)

    def test_missing_nodes(self):
        self.history.write(0, {1: 7})
        self.check_missing(self.history, lambda history, nodes: heads(history, nodes, 1), [0, 1, 0])
        self.check_missing(self.history, lambda history, nodes: found_values(history, nodes, 1), [0, 1, 0])

    def test_random_histories(self):
        chance = random.Random(30)
        several = 0
        for _ in range(150):
            history = random_history(chance)
            nodes = some_nodes(chance, history)
            self.check_on(history, sorted(model_past(history, nodes)), past, nodes)
            for place in [*PLACES, 77]:
                expected = model_heads(history, nodes, place)
                several += len(expected) > 1
                self.check_on(history, expected, heads, nodes, place)
                self.check_on(history, model_found(history, nodes, place), found_values, nodes, place)
        self.assertGreater(several, 20)


class CleanTest(HistoryCase):
    def setUp(self):
        self.history = History(RuleBook([("unlike", Apart([1, 2])), ("link", Needs([(3, 1)]))]), {1: 5})

    def check_clean(self, nodes, book):
        self.check_on(self.history, None, clash_of, nodes)
        self.check_on(self.history, book, merged_book, nodes)

    def check_place(self, nodes, place, found):
        self.check_on(self.history, ("place", place, found), clash_of, nodes)
        self.refuse_on(self.history, PlaceClash, {"place": place, "found": found}, merged_book, self.history, nodes)

    def check_rule(self, nodes, key, bar):
        self.check_on(self.history, ("rule", key, bar), clash_of, nodes)
        self.refuse_on(self.history, RuleClash, {"key": key, "bar": bar}, merged_book, self.history, nodes)

    def test_one_node(self):
        history = self.history
        history.write(0, {2: 4, 8: 0})
        history.write(0, {2: 4, 9: 1})
        history.merge([1, 2])
        for node in history:
            self.check_clean([node], history.book(node))
            self.check_clean([node, node], history.book(node))

    def test_values_of_both_sides(self):
        self.history.write(0, {2: 4, 8: 8})
        self.history.write(0, {1: 0})
        self.history.write(0, {9: 9, 2: 4})
        self.check_clean([1, 2, 3], {2: 4, 8: 8, 9: 9})
        self.check_clean([3, 0, 1], {1: 5, 2: 4, 8: 8, 9: 9})

    def test_the_lowest_place_with_several_values(self):
        self.history.write(0, {2: 4, 9: 8, 10: 1})
        self.history.write(0, {2: 4, 9: 7, 10: 0})
        self.history.write(0, {9: 0})
        self.check_place([1, 2], 9, [7, 8])
        self.check_place([3, 2, 1], 9, [0, 7, 8])
        self.check_place([3, 1], 9, [0, 8])

    def test_a_value_against_the_empty_place(self):
        self.history.write(0, {4: 1})
        self.history.write(1, {4: 0})
        self.history.write(0, {4: 2})
        self.check_place([2, 3], 4, [0, 2])
        self.check_place([1, 3], 4, [1, 2])
        self.check_clean([1, 2], {1: 5})

    def test_a_rule(self):
        self.history.write(0, {1: 0})
        self.history.write(0, {3: 1})
        self.history.write(0, {1: 4})
        self.history.write(0, {2: 4})
        self.check_rule([1, 2], "link", ((1, 0), (3, 1)))
        self.check_rule([4, 3, 2], "unlike", ((1, 4), (2, 4)))
        self.check_clean([4, 2], {1: 5, 2: 4, 3: 1})

    def test_a_place_comes_before_a_rule(self):
        self.history.write(0, {1: 4, 9: 1})
        self.history.write(0, {2: 4, 9: 2})
        self.check_place([1, 2], 9, [1, 2])

    def test_missing_nodes(self):
        self.history.write(0, {1: 4})
        self.history.write(0, {1: 6})
        self.check_missing(self.history, clash_of, [1, 2, 0])
        self.check_missing(self.history, merged_book, [1, 2, 0])
        self.refuse_on(self.history, NoNode, {"node": 3}, clash_of, self.history, [1, 2, 3])

    def test_random_histories(self):
        chance = random.Random(31)
        words = []
        for _ in range(400):
            apart = RuleBook([("apart", Apart(list(PLACES)))])
            history = random_history(chance, 10, chance.choice([None, apart]))
            nodes = some_nodes(chance, history)
            clash = model_clash(history, nodes)
            self.check_on(history, clash, clash_of, nodes)
            words.append(clash[0] if clash else "clean")
            if clash is None:
                book = {place: model_found(history, nodes, place)[0] for place in PLACES}
                self.check_on(history, {place: book[place] for place in book if book[place]}, merged_book, nodes)
            else:
                error = PlaceClash if clash[0] == "place" else RuleClash
                fields = dict(zip(("place", "found") if clash[0] == "place" else ("key", "bar"), clash[1:]))
                self.refuse_on(history, error, fields, merged_book, history, nodes)
        self.assertGreater(min(words.count(word) for word in ("clean", "place", "rule")), 5)


if __name__ == "__main__":
    unittest.main()
