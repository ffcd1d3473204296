"""Points 3 and 32: merges of a history."""

import random
import unittest

from forkedshelves.errors import PlaceClash, RuleClash, ShelfError
from forkedshelves.heads import clash_of, heads
from forkedshelves.history import History
from forkedshelves.pairs import Apart
from forkedshelves.rulebook import RuleBook
from forkedshelves.sums import Total
from tests.histories import PLACES, HistoryCase, model_found, random_history, random_writes, snapshot, some_nodes


def merge_with(history, parents, answers):
    return history.merge(parents, answers=answers)


class MergeTest(HistoryCase):
    def setUp(self):
        self.rules = RuleBook([("unlike", Apart([1, 2])), ("small", Total([6, 7, 8], 2))])
        self.history = History(self.rules, {1: 5})

    def test_writes_of_both_sides(self):
        history = self.history
        sides = [history.write(0, {1: 7, 9: 1}), history.write(0, {2: 3}), history.write(0, {1: 0})]
        self.assertEqual(history.book(history.merge(sides[:2])), {1: 7, 2: 3, 9: 1})
        self.assertEqual(history.book(history.merge([sides[1], sides[2]])), {2: 3})
        self.assertEqual(snapshot(history)[1][5], ("merge", [2, 3], {}, {2: 3}))

    def test_without_answers(self):
        history = self.history
        history.write(0, {2: 3})
        for answers in (None, {}):
            node = merge_with(history, [0, 1], answers)
            self.assertEqual([history.written(node), history.book(node)], [{}, {1: 5, 2: 3}])
        self.assertEqual(history.written(history.merge([1])), {})

    def test_an_overwritten_value_stays_overwritten(self):
        history = self.history
        history.write(0, {1: 7})
        history.write(1, {1: 8})
        history.write(2, {1: 5})
        self.assertEqual([history.book(history.merge(nodes)) for nodes in ([1, 2], [2, 0, 1], [3, 1], [0, 3])],
                         [{1: 8}, {1: 8}, {1: 5}, {1: 5}])

    def test_a_place_clash_and_its_answer(self):
        history = self.history
        history.write(0, {1: 7, 4: 1})
        history.write(0, {1: 6, 4: 2})
        history.write(0, {4: 0})
        merge = history.merge
        self.refuse_on(history, PlaceClash, {"place": 1, "found": [6, 7]}, merge, [1, 2])
        self.refuse_on(history, PlaceClash, {"place": 4, "found": [0, 1, 2]}, merge_with, history, [2, 3, 1], {1: 9})
        self.refuse_on(history, PlaceClash, {"place": 1, "found": [6, 7]}, merge_with, history, [1, 2], {4: 2})
        self.refuse_on(history, PlaceClash, {"place": 4, "found": [1, 2]}, merge_with, history, [1, 2], {1: 7, 5: 5})
        self.assertEqual(merge_with(history, [1, 2], {1: 7, 4: 9}), 4)
        self.assertEqual(snapshot(history)[1][4], ("merge", [1, 2], {1: 7, 4: 9}, {1: 7, 4: 9}))

    def test_answers_of_0(self):
        history = self.history
        history.write(0, {1: 7})
        history.write(0, {1: 6})
        node = merge_with(history, [1, 2], {1: 0, 3: 0})
        self.assertEqual(snapshot(history)[1][node], ("merge", [1, 2], {1: 0, 3: 0}, {}))
        self.assertEqual(history.book(history.merge([node, 1])), {})

    def test_answers_where_there_is_no_clash(self):
        history = self.history
        history.write(0, {2: 3})
        node = merge_with(history, [1, 0], {1: 8, 2: 4, 9: 9})
        self.assertEqual(snapshot(history)[1][node], ("merge", [1, 0], {1: 8, 2: 4, 9: 9}, {1: 8, 2: 4, 9: 9}))
        # The answers are writes of the merge: they overwrite what it knows.
        self.assertEqual(history.book(history.merge([1, node])), {1: 8, 2: 4, 9: 9})

    def test_an_answer_with_the_only_found_value_is_a_write(self):
        history = self.history
        history.write(0, {2: 3})
        node = merge_with(history, [1], {2: 3, 1: 5})
        self.assertEqual(history.written(node), {1: 5, 2: 3})
        self.assertEqual([heads(history, [node], place) for place in (1, 2, 3)], [[node], [node], [0]])

    def test_a_rule_clash(self):
        history = self.history
        history.write(0, {1: 4})
        history.write(0, {2: 4})
        self.refuse_on(history, RuleClash, {"key": "unlike", "bar": ((1, 4), (2, 4))}, history.merge, [1, 2])
        self.assertEqual(history.book(merge_with(history, [1, 2], {2: 3})), {1: 4, 2: 3})
        self.refuse_on(history, RuleClash, {"key": "unlike", "bar": ((1, 9), (2, 9))}, merge_with, history, [1, 2],
                       {1: 9, 2: 9})

    def test_a_rule_clash_of_three(self):
        history = self.history
        tips = [history.write(0, {place: 1}) for place in (6, 7, 8)]
        self.assertEqual(history.book(history.merge(tips[:2])), {1: 5, 6: 1, 7: 1})
        self.refuse_on(history, RuleClash, {"key": "small", "bar": ((6, 1), (7, 1), (8, 1))}, history.merge, tips)

    def test_a_place_clash_comes_before_a_rule_clash(self):
        history = self.history
        history.write(0, {1: 4, 9: 1})
        history.write(0, {2: 4, 9: 2})
        self.refuse_on(history, PlaceClash, {"place": 9, "found": [1, 2]}, history.merge, [1, 2])
        self.refuse_on(history, RuleClash, {"key": "unlike", "bar": ((1, 4), (2, 4))}, merge_with, history, [1, 2],
                       {9: 2})
        # A rule that an answer breaks does not hide a clash of places either.
        self.refuse_on(history, PlaceClash, {"place": 9, "found": [1, 2]}, merge_with, history, [1, 2],
                       {6: 3, 1: 1})

    def test_the_same_value_on_both_sides(self):
        history = self.history
        history.write(0, {4: 1})
        history.write(0, {4: 1})
        node = history.merge([1, 2])
        self.assertEqual([history.book(node), heads(history, [node], 4)], [{1: 5, 4: 1}, [1, 2]])

    def test_merges_that_cross(self):
        history = self.history
        left, right = history.write(0, {3: 1}), history.write(0, {4: 1})
        first = history.write(history.merge([left, right]), {3: 2})
        second = history.write(history.merge([right, left]), {4: 2})
        self.assertEqual(history.book(history.merge([first, second])), {1: 5, 3: 2, 4: 2})
        back = history.write(history.merge([left, right]), {3: 0, 4: 0})
        self.refuse_on(history, PlaceClash, {"place": 3, "found": [0, 2]}, history.merge, [first, back])
        self.assertEqual(history.book(history.merge([left, back, right])), {1: 5})

    def test_nodes_of_the_own_past_show_nothing_new(self):
        history = self.history
        history.write(0, {3: 1})
        history.write(1, {4: 1})
        for nodes in ([2], [2, 2], [2, 1], [0, 1, 2], [1, 2, 0, 1, 2]):
            node = history.merge(nodes)
            self.assertEqual([history.book(node), history.written(node)], [{1: 5, 3: 1, 4: 1}, {}])
            self.assertEqual([heads(history, [node], place) for place in (1, 3, 4)], [[0], [1], [2]])

    def test_an_answered_clash_does_not_come_back(self):
        history = self.history
        history.write(0, {3: 1})
        history.write(0, {3: 2})
        answered = merge_with(history, [1, 2], {3: 1})
        self.assertEqual(history.book(history.merge([2, answered, 1])), {1: 5, 3: 1})
        other = merge_with(history, [1, 2], {3: 2})
        self.refuse_on(history, PlaceClash, {"place": 3, "found": [1, 2]}, history.merge, [answered, other])


class RandomMergeTest(HistoryCase):
    def test_random_merges(self):
        """By the words of the point: the found values, the answers over them, and the two errors."""
        chance = random.Random(32)
        ends = []
        for _ in range(250):
            history = random_history(chance)
            nodes = some_nodes(chance, history)
            answers = chance.choice([None, {}, random_writes(chance), random_writes(chance)])
            found = {place: model_found(history, nodes, place) for place in PLACES}
            for place, value in (answers or {}).items():
                found[place] = [value]
            several = [place for place in PLACES if len(found[place]) > 1]
            book = {place: found[place][0] for place in PLACES if found[place][0] > 0}
            if several:
                fields = {"place": several[0], "found": found[several[0]]}
                self.refuse_on(history, PlaceClash, fields, merge_with, history, nodes, answers)
            elif not history.rulebook.is_lawful(book):
                key, bar = history.rulebook.reason(book)
                self.refuse_on(history, RuleClash, {"key": key, "bar": bar}, merge_with, history, nodes, answers)
            else:
                number = history.node_count()
                self.assertEqual(self.call(merge_with, history, nodes, answers), number)
                self.assertEqual(snapshot(history)[1][number], ("merge", nodes, answers or {}, book))
            ends.append(1 if several else history.rulebook.is_lawful(book))
        self.assertGreater(min(ends.count(end) for end in (1, True, False)), 10)

    def random_merge(self, chance, history, nodes):
        """Merge nodes in some order and grouping, some of them repeatedly; return None if a merge is refused."""
        waiting = chance.sample(nodes, len(nodes)) + [chance.choice(nodes) for _ in range(chance.randint(0, 2))]
        chance.shuffle(waiting)
        while len(waiting) > 1:
            many = chance.randint(2, len(waiting))
            try:
                merged = history.merge(waiting[:many])
            except ShelfError:
                return None
            waiting = waiting[many:] + [merged]
            chance.shuffle(waiting)
        return waiting[0]

    def test_any_order_and_grouping_shows_the_same(self):
        chance = random.Random(321)
        compared = 0
        for _ in range(120):
            history = random_history(chance, rules=RuleBook([]) if chance.random() < 0.5 else None)
            nodes = sorted(set(some_nodes(chance, history, 4)))
            if clash_of(history, nodes) is not None:
                continue
            shown = set()
            for _ in range(6):
                last = self.random_merge(chance, history, nodes)
                if last is not None:
                    every = [heads(history, [last], place) for place in PLACES]
                    shown.add(str((sorted(history.book(last).items()), every)))
            compared += 1
            self.assertLessEqual(len(shown), 1)
        self.assertGreater(compared, 50)


if __name__ == "__main__":
    unittest.main()
