"""Points 2, 3 and 69: papers about histories."""

import random
import unittest

from forkedshelves.cleanorder import stuck_family
from forkedshelves.heads import clash_of
from forkedshelves.history import History
from forkedshelves.listed import Ban
from forkedshelves.looker import accepts
from forkedshelves.orders import parting_places, two_orders
from forkedshelves.pairs import Apart, Needs
from forkedshelves.papers import orders_paper, paper_of, stuck_paper
from forkedshelves.rulebook import RuleBook
from forkedshelves.sums import Total
from tests.histories import HistoryCase, model_found, model_heads, model_past, random_history, some_nodes
from tests.papercases import Reader
from tests.test_orders import some_tips, wide_history


class PaperOfTest(HistoryCase):
    def setUp(self):
        self.history = History(RuleBook([("unlike", Apart([7, 8])), ("link", Needs([(3, 4)]))]), {1: 5, 8: 6})

    def test_clean(self):
        history = self.history
        history.write(0, {2: 2, 1: 5})
        history.write(0, {2: 2, 9: 0})
        self.check_on(history, ("clean", []), paper_of, [0])
        self.check_on(history, ("clean", [(1, (1,)), (2, (1,))]), paper_of, [1])
        self.check_on(history, ("clean", [(1, (1,)), (2, (1, 2)), (9, (2,))]), paper_of, [2, 1, 0, 1])

    def test_rows_ascend(self):
        self.history.write(0, {64: 1, 9: 1, 3: 1, 4: 1, 33: 1, 16: 1, 1: 1})
        self.check_on(self.history, ("clean", [(place, (1,)) for place in (1, 3, 4, 9, 16, 33, 64)]), paper_of, [1])

    def test_clean_after_answers(self):
        history = self.history
        nodes = [history.write(0, {2: 2}), history.write(0, {2: 3})]
        history.merge(nodes, answers={2: 4, 1: 0})
        self.check_on(history, ("clean", [(1, (3,)), (2, (3,))]), paper_of, [3])
        self.check_on(history, ("clean", [(1, (3,)), (2, (3,))]), paper_of, [1, 3, 2])

    def test_a_clash_of_a_place(self):
        history = self.history
        nodes = [history.write(0, {2: 2, 1: 1}), history.write(0, {2: 3}), history.write(0, {2: 3, 1: 1})]
        for chosen, second in [(nodes[:2], 2), (nodes[1::-1], 2), ([1, 3], 3)]:
            self.check_on(history, ("place", 2, 1, second), paper_of, chosen)
        self.assertIn(paper_of(history, nodes), [("place", 2, 1, 2), ("place", 2, 1, 3)])
        self.assertEqual(paper_of(history, [2, 3])[0], "clean")

    def test_a_clash_with_the_value_0(self):
        self.history.write(0, {1: 0})
        self.history.write(0, {1: 6})
        self.check_on(self.history, ("place", 1, 1, 2), paper_of, [2, 1])

    def test_a_clash_of_a_rule(self):
        history = self.history
        history.write(0, {7: 4})
        history.write(0, {8: 4})
        self.check_on(history, ("rule", "unlike", ((7, 4), (8, 4)), (1, 2)), paper_of, [2, 1])
        history.write(0, {8: 4})
        found = paper_of(history, [1, 2, 3])
        self.assertIn(found[3], [(1, 2), (1, 3)])

    def test_a_clash_of_a_rule_with_an_empty_place_and_with_the_start(self):
        rules = RuleBook([("link", Needs([(3, 4)])), ("small", Total([1, 2, 5], 2))])
        history = History(rules, {4: 1, 5: 1})
        history.write(0, {3: 2})
        history.write(0, {4: 0})
        history.write(0, {1: 1})
        history.write(0, {2: 1})
        self.check_on(history, ("rule", "link", ((3, 2), (4, 0)), (1, 2)), paper_of, [1, 2])
        self.check_on(history, ("rule", "small", ((1, 1), (2, 1), (5, 1)), (3, 4, 0)), paper_of, [4, 3])

    def test_a_clash_of_a_rule_with_an_empty_place_that_nobody_has_written(self):
        bar = ((1, 1), (2, 1), (4, 0))
        history = History(RuleBook([("ban", Ban([bar]))]), {})
        history.write(0, {2: 1})
        history.write(0, {1: 1})
        self.check_on(history, ("rule", "ban", bar, (2, 1, 0)), paper_of, [1, 2])
        self.assertTrue(accepts(history, [1, 2], ("rule", "ban", bar, (2, 1, 0))))
        self.assertFalse(accepts(history, [1, 2], ("rule", "ban", bar, (2, 1, 1))))

    def test_missing_nodes(self):
        self.history.write(0, {2: 2})
        self.history.write(0, {2: 3})
        for function in (paper_of, orders_paper, stuck_paper):
            self.check_missing(self.history, function, [1, 0, 2])

    def test_random_histories(self):
        chance = random.Random(69)
        words = {"clean": 0, "place": 0, "rule": 0}
        for _ in range(400):
            history = wide_history(chance)
            nodes = some_nodes(chance, history)
            clash = clash_of(history, nodes)
            paper = self.call(paper_of, history, nodes)
            words[paper[0]] += 1
            self.check_new(paper_of, history, nodes)
            self.assertIs(type(paper), tuple)
            self.assertTrue(accepts(history, nodes, paper))
            self.assertTrue(Reader(history, nodes).accepts(paper))
            if clash is None:
                later = sorted({place for node in model_past(history, nodes) - {0} for place in history.written(node)})
                rows = [(place, tuple(model_heads(history, nodes, place))) for place in later]
                self.assertEqual(paper, ("clean", rows))
            elif clash[0] == "place":
                heads = model_heads(history, nodes, clash[1])
                self.assertEqual(paper[:2], ("place", clash[1]))
                self.assertLess(paper[2], paper[3])
                self.assertTrue(paper[2] in heads and paper[3] in heads)
            else:
                self.assertEqual(paper[:3], clash)
                for (place, value), node in zip(paper[2], paper[3]):
                    self.assertIn(node, model_heads(history, nodes, place))
                    self.assertEqual(model_found(history, nodes, place), [value])
        self.assertGreater(min(words.values()), 10)


class TipsPapersTest(HistoryCase):
    def setUp(self):
        self.history = History(RuleBook([("small", Total([1, 2, 3], 2))]), {})
        self.tips = [self.history.write(0, {place: 1}) for place in (1, 2, 3)]

    def test_orders(self):
        self.check_on(self.history, ("orders", (1, 2, 3), (1, 3, 2), 2), orders_paper, self.tips)
        self.check_on(self.history, ("orders", (3, 2, 1), (3, 1, 2), 1), orders_paper, self.tips[::-1])

    def test_no_orders(self):
        for tips in ([1], [0], [1, 2], [3, 0, 1]):
            self.check_on(self.history, None, orders_paper, tips)
            self.check_on(self.history, None, stuck_paper, tips)

    def test_stuck(self):
        expected = ("stuck", ((0,), (1,), (2,), (0, 1), (0, 2), (1, 2)))
        self.check_on(self.history, expected, stuck_paper, self.tips)

    def test_a_clash_with_a_clean_order(self):
        history = History(RuleBook([]), {})
        tips = [history.write(0, {1: 1}), history.write(0, {1: 2})]
        tips.append(history.merge(tips, answers={1: 3}))
        self.check_on(history, ("orders", (1, 2), (2, 1), 1), orders_paper, tips)
        self.check_on(history, None, stuck_paper, tips)

    def test_random_histories(self):
        chance = random.Random(691)
        found = [0, 0, 0]
        for _ in range(250):
            history = wide_history(chance)
            tips = some_tips(chance, history)
            orders, family = two_orders(history, tips), stuck_family(history, tips)
            expected = None
            if orders is not None:
                expected = ("orders", *map(tuple, orders), parting_places(history, *orders)[0])
                self.assertTrue(accepts(history, tips, expected))
            self.check_on(history, expected, orders_paper, tips)
            expected_stuck = None if family is None else ("stuck", tuple(map(tuple, family)))
            self.check_on(history, expected_stuck, stuck_paper, tips)
            if expected_stuck:
                self.assertTrue(accepts(history, tips, expected_stuck))
            found[0 if orders is None else 1 if family is None else 2] += 1
        self.assertGreater(min(found), 5)

    def test_random_histories_without_rules(self):
        chance = random.Random(692)
        for _ in range(60):
            history = random_history(chance, 8, RuleBook([]))
            tips = some_tips(chance, history, 6)
            for paper in (paper_of(history, tips), orders_paper(history, tips), stuck_paper(history, tips)):
                if paper is not None:
                    self.assertTrue(accepts(history, tips, paper))
                    self.assertTrue(Reader(history, tips).accepts(paper))


if __name__ == "__main__":
    unittest.main()
