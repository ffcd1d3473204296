"""Points 3, 33 and 34: what became of writes, and who brought what is found."""

import random
import unittest

from forkedshelves.errors import NoNode, NoWrite
from forkedshelves.fates import bearers, fate, own_places
from forkedshelves.history import History
from forkedshelves.rulebook import RuleBook
from tests.histories import PLACES, HistoryCase, model_found, model_heads, model_past, random_history, some_nodes


class FateTest(HistoryCase):
    def setUp(self):
        self.history = History(RuleBook([]), {1: 5})
        self.history.write(0, {1: 7, 2: 2})
        self.history.write(1, {1: 8})
        self.history.write(1, {1: 9})
        self.history.write(0, {3: 0})

    def test_a_head(self):
        self.check_on(self.history, [1], fate, [1], 1, 1)
        self.check_on(self.history, [1], fate, [2, 3, 4], 1, 2)
        self.check_on(self.history, [4], fate, [4, 1], 4, 3)
        self.check_on(self.history, [2], fate, [3, 2], 2, 1)

    def test_overwritten_on_one_side_and_on_several(self):
        self.check_on(self.history, [2], fate, [2], 1, 1)
        self.check_on(self.history, [2], fate, [1, 2], 1, 1)
        self.check_on(self.history, [2, 3], fate, [3, 2], 1, 1)
        self.check_on(self.history, [2, 3], fate, [3, 1, 2, 4], 0, 1)

    def test_overwritten_by_an_answer(self):
        answered = self.history.merge([2, 3], answers={1: 1})
        for node in (0, 1, 2, 3, answered):
            self.check_on(self.history, [answered], fate, [3, answered], node, 1)

    def test_only_heads_that_know_the_node(self):
        other = self.history.write(0, {1: 6})
        self.check_on(self.history, [2], fate, [2, other], 1, 1)
        self.check_on(self.history, [2, other], fate, [2, other], 0, 1)

    def test_the_start_writes_every_place(self):
        for place in (1, 2, 77):
            self.check_on(self.history, [0], fate, [0], 0, place)
        self.check_on(self.history, [0], fate, [1, 4], 0, 77)
        self.check_on(self.history, [4], fate, [1, 4], 0, 3)

    def test_a_node_outside_the_past(self):
        self.refuse_on(self.history, NoWrite, {"node": 2, "place": 1}, fate, self.history, [3, 4], 2, 1)
        self.refuse_on(self.history, NoWrite, {"node": 4, "place": 3}, fate, self.history, [0], 4, 3)

    def test_a_node_that_does_not_write_the_place(self):
        merged = self.history.merge([1, 4])
        self.refuse_on(self.history, NoWrite, {"node": 2, "place": 2}, fate, self.history, [2, 1], 2, 2)
        self.refuse_on(self.history, NoWrite, {"node": 4, "place": 1}, fate, self.history, [4], 4, 1)
        self.refuse_on(self.history, NoWrite, {"node": merged, "place": 1}, fate, self.history, [merged], merged, 1)

    def test_missing_nodes(self):
        self.check_missing(self.history, lambda history, nodes, node: fate(history, nodes, node, 1), [1, 2], 1)
        self.check_missing(self.history, lambda history, nodes, node: fate(history, nodes, node, 50), [3], 2)
        self.refuse_on(self.history, NoNode, {"node": 9}, fate, self.history, [9], 8, 1)

    def test_random_histories(self):
        chance = random.Random(33)
        kinds = []
        for _ in range(60):
            history = random_history(chance)
            nodes = some_nodes(chance, history)
            for node in history:
                for place in PLACES:
                    writes = node == 0 or place in history.written(node)
                    if node in model_past(history, nodes) and writes:
                        expected = [head for head in model_heads(history, nodes, place)
                                    if node in model_past(history, [head])]
                        self.check_on(history, expected, fate, nodes, node, place)
                        self.assertTrue(expected)
                        self.assertEqual(expected == [node], node in model_heads(history, nodes, place))
                        kinds.append(min(len(expected), 2))
                    else:
                        fields = {"node": node, "place": place}
                        self.refuse_on(history, NoWrite, fields, fate, history, nodes, node, place)
                        kinds.append(0)
        self.assertEqual(sorted(set(kinds)), [0, 1, 2])


class BearersTest(HistoryCase):
    def setUp(self):
        self.history = History(RuleBook([]), {1: 5})
        self.history.write(0, {1: 7, 2: 2})
        self.history.write(0, {1: 0})
        self.history.write(1, {4: 4})

    def test_who_brings_a_mark(self):
        self.check_on(self.history, [0, 2], bearers, [1, 2, 3], (1, 7))
        self.check_on(self.history, [2], bearers, [1, 2, 3], (4, 4))
        self.check_on(self.history, [0, 1, 3], bearers, [3, 1, 2, 1], (2, 2))

    def test_a_mark_with_the_value_0(self):
        self.check_on(self.history, [1], bearers, [1, 2, 3], (1, 0))
        self.check_on(self.history, [0, 1, 2], bearers, [1, 2, 3], (9, 0))
        self.check_on(self.history, [0], bearers, [2], (2, 0))

    def test_a_mark_that_is_none_of_the_list(self):
        for mark in ((1, 5), (1, 8), (2, 0), (9, 1), (4, 0)):
            self.check_on(self.history, [], bearers, [1, 2, 3], mark)

    def test_marks_of_the_start(self):
        self.check_on(self.history, [0, 1], bearers, [0, 0], (1, 5))
        self.history.write(0, {2: 2})
        self.check_on(self.history, [0, 1], bearers, [4, 0], (1, 5))

    def test_several_heads_with_the_value(self):
        self.history.write(0, {1: 7})
        self.check_on(self.history, [0, 2, 3], bearers, [4, 2, 3, 1], (1, 7))

    def test_missing_nodes(self):
        self.check_missing(self.history, lambda history, nodes: bearers(history, nodes, (1, 7)), [1, 2, 3])

    def test_random_histories(self):
        chance = random.Random(34)
        for _ in range(80):
            history = random_history(chance)
            nodes = some_nodes(chance, history, 4)
            for place in PLACES:
                for value in range(3):
                    writers = [head for head in model_heads(history, nodes, place)
                               if history.written(head).get(place, 0) == value]
                    expected = [at for at, node in enumerate(nodes) if set(writers) & model_past(history, [node])]
                    self.check_on(history, expected, bearers, nodes, (place, value))
                    self.assertEqual(expected == [], value not in model_found(history, nodes, place))


class OwnPlacesTest(HistoryCase):
    def setUp(self):
        self.history = History(RuleBook([]), {1: 5})
        self.history.write(0, {1: 7, 2: 2, 0: 0})
        self.history.write(0, {1: 7, 3: 3})
        self.history.write(1, {2: 8})

    def test_places_of_one_entry(self):
        self.check_on(self.history, [0, 1, 2], own_places, [1, 2], 0)
        self.check_on(self.history, [1, 3], own_places, [1, 2], 1)
        self.check_on(self.history, [0, 1, 2], own_places, [1], 0)

    def test_places_that_two_entries_share(self):
        self.check_on(self.history, [], own_places, [1, 2, 3], 0)
        self.check_on(self.history, [2], own_places, [1, 2, 3], 2)
        self.check_on(self.history, [1, 3], own_places, [1, 2, 3], 1)

    def test_a_node_that_occurs_twice(self):
        self.check_on(self.history, [], own_places, [1, 2, 1], 0)
        self.check_on(self.history, [], own_places, [1, 2, 1], 2)
        self.check_on(self.history, [1, 3], own_places, [1, 2, 1], 1)

    def test_heads_that_are_the_start(self):
        self.check_on(self.history, [], own_places, [0], 0)
        self.check_on(self.history, [], own_places, [0, 1], 0)
        self.check_on(self.history, [0, 1, 2], own_places, [0, 1], 1)

    def test_an_overwritten_place_is_not_its_own(self):
        self.check_on(self.history, [0, 1, 2], own_places, [2, 3], 1)
        knowing = self.history.write(self.history.merge([2, 3]), {1: 1})
        self.check_on(self.history, [], own_places, [2, knowing], 0)
        self.check_on(self.history, [0, 1, 2], own_places, [2, knowing], 1)

    def test_missing_nodes(self):
        for position in range(3):
            self.check_missing(self.history, lambda history, nodes: own_places(history, nodes, position), [1, 2, 3])

    def test_random_histories(self):
        chance = random.Random(341)
        for _ in range(100):
            history = random_history(chance)
            nodes = some_nodes(chance, history, 4)
            for position, node in enumerate(nodes):
                others = model_past(history, nodes[:position] + nodes[position + 1:])
                own = model_past(history, [node]) - others - {0}
                expected = [place for place in PLACES if own & set(model_heads(history, nodes, place))]
                self.check_on(history, expected, own_places, nodes, position)


if __name__ == "__main__":
    unittest.main()
