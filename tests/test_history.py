"""Points 2, 3 and 28: histories, their nodes and writes."""

import random
import unittest
from copy import deepcopy

from forkedshelves.books import with_writes
from forkedshelves.errors import EmptyDeed, NoNode, PlaceClash, RuleClash, ShelfError, Unlawful
from forkedshelves.history import History
from forkedshelves.pairs import Apart, Needs
from forkedshelves.rulebook import RuleBook
from tests.helpers import spoil
from tests.histories import HistoryCase, random_history, snapshot


class StartTest(HistoryCase):
    def test_the_start(self):
        history = History(RuleBook([]), {1: 5, 9: 2})
        self.assertEqual(snapshot(history), [[0], [("start", [], {1: 5, 9: 2}, {1: 5, 9: 2})]])
        self.assertEqual(snapshot(History(RuleBook([]), {})), [[0], [("start", [], {}, {})]])
        self.assertEqual(history.node_count(), 1)

    def test_an_unlawful_start(self):
        rules = RuleBook([("link", Needs([(3, 1)])), ("unlike", Apart([1, 2]))])
        self.refuse(Unlawful, {"key": "link", "bar": ((1, 0), (3, 4))}, History, rules, {3: 4})
        self.refuse(Unlawful, {"key": "unlike", "bar": ((1, 4), (2, 4))}, History, rules, {3: 4, 1: 4, 2: 4})

    def test_the_rule_book_is_the_one_that_was_passed(self):
        rules = RuleBook([("unlike", Apart([1, 2]))])
        history = History(rules, {})
        self.assertIs(history.rulebook, rules)
        self.assertIs(history.clone().rulebook, rules)

    def test_the_book_that_was_passed_may_be_changed(self):
        book = {1: 5}
        history = History(RuleBook([]), book)
        book[1] = 7
        book[2] = 8
        self.assertEqual(snapshot(history), [[0], [("start", [], {1: 5}, {1: 5})]])


class WriteTest(HistoryCase):
    def setUp(self):
        self.rules = RuleBook([("unlike", Apart([1, 2])), ("link", Needs([(3, 1)]))])
        self.history = History(self.rules, {1: 5})

    def test_writes(self):
        history = self.history
        self.assertEqual([history.write(0, {2: 4}), history.write(1, {1: 7, 9: 1}), history.write(0, {3: 3})], [1, 2, 3])
        self.assertEqual(snapshot(history), [[0, 1, 2, 3], [
            ("start", [], {1: 5}, {1: 5}), ("write", [0], {2: 4}, {1: 5, 2: 4}),
            ("write", [1], {1: 7, 9: 1}, {1: 7, 2: 4, 9: 1}), ("write", [0], {3: 3}, {1: 5, 3: 3})]])

    def test_writes_of_0_and_writes_that_change_nothing(self):
        history = self.history
        self.assertEqual([history.write(0, {1: 0, 2: 0}), history.write(0, {1: 5}), history.write(2, {1: 5})], [1, 2, 3])
        self.assertEqual(snapshot(history)[1][1:], [("write", [0], {1: 0, 2: 0}, {}), ("write", [0], {1: 5}, {1: 5}),
                                                   ("write", [2], {1: 5}, {1: 5})])

    def test_no_places(self):
        self.refuse_on(self.history, EmptyDeed, {}, self.history.write, 0, {})

    def test_an_unlawful_book(self):
        fields = {"key": "unlike", "bar": ((1, 5), (2, 5))}
        self.refuse_on(self.history, Unlawful, fields, self.history.write, 0, {2: 5})
        self.refuse_on(self.history, Unlawful, fields, self.history.write, 0, {2: 5, 7: 7, 3: 1})
        self.history.write(0, {3: 1})
        self.refuse_on(self.history, Unlawful, {"key": "link", "bar": ((1, 0), (3, 1))}, self.history.write, 1, {1: 0})
        self.assertEqual(self.history.write(0, {7: 7}), 2)

    def test_missing_nodes(self):
        for writes in ({}, {2: 5}, {7: 7}):
            for node in (1, 2, -1, 1000):
                self.refuse_on(self.history, NoNode, {"node": node}, self.history.write, node, writes)

    def test_what_is_passed_may_be_changed(self):
        writes = {2: 4, 9: 1}
        self.history.write(0, writes)
        self.assertEqual(writes, {2: 4, 9: 1})
        parents, answers = [0, 1], {2: 6}
        self.history.merge(parents, answers=answers)
        self.assertEqual([parents, answers], [[0, 1], {2: 6}])
        before = snapshot(self.history)
        for value in (writes, parents, answers):
            spoil(value)
        self.assertEqual(snapshot(self.history), before)

    def test_what_is_returned_may_be_changed(self):
        self.history.write(0, {2: 4, 9: 1})
        self.history.merge([0, 1], answers={2: 6})
        before = deepcopy(snapshot(self.history))
        spoil(snapshot(self.history))
        self.assertEqual(snapshot(self.history), before)
        # Not even a later node is made of what was changed.
        self.assertEqual(self.history.book(self.history.write(2, {4: 1})), {1: 5, 2: 6, 4: 1, 9: 1})


class NodesTest(HistoryCase):
    def setUp(self):
        self.history = History(RuleBook([]), {1: 5})
        self.history.write(0, {2: 4})
        self.history.write(0, {3: 4})

    def test_parents_as_they_were_passed(self):
        for parents in ([1], [2, 1], [1, 1], [2, 0, 2, 1, 2], [0], [0, 0]):
            self.assertEqual(self.history.parents(self.history.merge(parents)), parents)

    def test_kinds_and_what_they_write(self):
        history = self.history
        nodes = [history.merge([1, 2]), history.merge([1], answers={}), history.merge([1, 2], answers={1: 0, 8: 3})]
        self.assertEqual(nodes, [3, 4, 5])
        self.assertEqual([history.kind(node) for node in history],
                         ["start", "write", "write", "merge", "merge", "merge"])
        self.assertEqual([history.written(node) for node in history],
                         [{1: 5}, {2: 4}, {3: 4}, {}, {}, {1: 0, 8: 3}])

    def test_in(self):
        for node in (0, 1, 2):
            self.assertIs(node in self.history, True)
        for node in (3, 4, -1, -2, -3, 10 ** 9, -10 ** 9):
            self.assertIs(node in self.history, False)
        self.history.write(0, {1: 1})
        self.assertIs(3 in self.history, True)

    def test_iterating(self):
        self.assertEqual(list(self.history), [0, 1, 2])
        self.assertEqual([(first, second) for first in self.history for second in self.history][:4],
                         [(0, 0), (0, 1), (0, 2), (1, 0)])
        self.assertEqual(sorted(self.history, reverse=True), [2, 1, 0])

    def test_writing_while_iterating(self):
        seen = []
        for node in self.history:
            seen.append(node)
            self.history.write(node, {9: node})
        self.assertEqual(seen, [0, 1, 2])
        self.assertEqual(list(self.history), [0, 1, 2, 3, 4, 5])

    def test_missing_nodes(self):
        history = self.history
        for method in (history.parents, history.written, history.kind, history.book):
            for node in (3, -1, -3, 1000):
                self.refuse_on(history, NoNode, {"node": node}, method, node)

    def test_missing_parents_of_a_merge(self):
        history = self.history
        self.check_missing(history, lambda passed, nodes: passed.merge(nodes), [2, 1, 0, 1])
        self.check_missing(history, lambda passed, nodes: passed.merge(nodes, answers={1: 1}), [2, 1])

    def test_a_missing_node_comes_before_a_clash(self):
        history = History(RuleBook([("unlike", Apart([1, 2]))]), {})
        history.write(0, {1: 5})
        history.write(0, {1: 6})
        history.write(0, {2: 5})
        for nodes in ([1, 2, 4], [4, 1, 2], [1, 3, 4], [1, 4, 3, -2]):
            self.refuse_on(history, NoNode, {"node": 4}, history.merge, nodes)
        self.refuse_on(history, PlaceClash, {"place": 1, "found": [5, 6]}, history.merge, [1, 2])
        self.refuse_on(history, RuleClash, {"key": "unlike", "bar": ((1, 5), (2, 5))}, history.merge, [1, 3])
        self.assertEqual(history.merge([1]), 4)


class CloneTest(HistoryCase):
    def setUp(self):
        self.history = History(RuleBook([("unlike", Apart([1, 2]))]), {1: 5})
        self.history.write(0, {2: 4})
        self.history.merge([0, 1], answers={3: 3})

    def test_a_clone_is_equal(self):
        clone = self.history.clone()
        self.assertIs(type(clone), History)
        self.assertIsNot(clone, self.history)
        self.assertEqual(snapshot(clone), snapshot(self.history))

    def test_both_go_their_own_ways(self):
        clone = self.history.clone()
        before = snapshot(self.history)
        self.assertEqual([clone.write(2, {8: 8}), clone.merge([1, 3])], [3, 4])
        self.assertEqual(snapshot(self.history), before)
        after = snapshot(clone)
        self.assertEqual(self.history.write(1, {1: 9}), 3)
        self.assertEqual(snapshot(clone), after)
        self.assertEqual([self.history.book(3), clone.book(3)], [{1: 9, 2: 4}, {1: 5, 2: 4, 3: 3, 8: 8}])
        self.assertEqual([4 in self.history, 4 in clone, list(clone)], [False, True, [0, 1, 2, 3, 4]])

    def test_a_clone_keeps_the_rules(self):
        clone = self.history.clone()
        self.refuse(Unlawful, {"key": "unlike", "bar": ((1, 4), (2, 4))}, clone.write, 1, {1: 4})
        self.assertEqual(clone.merge([2, 1]), 3)
        self.assertEqual(clone.clone().book(3), {1: 5, 2: 4, 3: 3})


class RandomHistoryTest(HistoryCase):
    def test_every_node_is_lawful_and_follows_its_parents(self):
        chance = random.Random(28)
        kinds = []
        for _ in range(60):
            history = random_history(chance)
            for node in history:
                kind, parents, writes, book = snapshot(history)[1][node]
                kinds.append((kind, len(parents)))
                self.assertTrue(history.rulebook.is_lawful(book))
                self.assertTrue(all(value > 0 for value in book.values()))
                self.assertTrue(all(parent < node for parent in parents))
                if kind == "write":
                    self.assertEqual(book, with_writes(history.book(parents[0]), writes))
        self.assertEqual(len(set(kinds)), 5)

    def test_refused_calls_make_no_node(self):
        chance = random.Random(281)
        refused = 0
        for _ in range(40):
            history = random_history(chance)
            before = snapshot(history)
            nodes = [chance.choice(list(history)) for _ in range(3)]
            try:
                history.merge(nodes)
            except ShelfError:
                refused += 1
                self.assertEqual(snapshot(history), before)
            else:
                self.assertEqual(snapshot(history)[1][:-1], before[1])
        self.assertGreater(refused, 10)


if __name__ == "__main__":
    unittest.main()
