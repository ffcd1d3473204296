"""Points 2, 3 and 70: reading papers about histories."""

import random
import unittest

from forkedshelves.history import History
from forkedshelves.looker import accepts
from forkedshelves.pairs import Apart, Needs
from forkedshelves.papers import orders_paper, paper_of, stuck_paper
from forkedshelves.rulebook import RuleBook
from forkedshelves.sums import Total
from tests.histories import HistoryCase, some_nodes
from tests.papercases import Reader, spoilt
from tests.test_orders import some_tips, wide_history


class AcceptsCase(HistoryCase):
    def setUp(self):
        rules = RuleBook([("unlike", Apart([7, 8])), ("link", Needs([(3, 4)])), ("small", Total([11, 12, 13], 2))])
        self.history = History(rules, {1: 5, 4: 9})

    def take(self, nodes, *papers):
        for paper in papers:
            self.check_on(self.history, True, accepts, nodes, paper)

    def reject(self, nodes, *papers):
        for paper in papers:
            self.check_on(self.history, False, accepts, nodes, paper)


class CleanTest(AcceptsCase):
    def setUp(self):
        AcceptsCase.setUp(self)
        # 1 and 2 write the same value to place 2; 3 merges them, and 4 writes place 1 on 3; 5 writes place 2 on 1.
        self.history.write(0, {2: 2})
        self.history.write(0, {2: 2, 9: 1})
        self.history.write(self.history.merge([1, 2]), {1: 6})
        self.history.write(1, {2: 2})
        self.rows = [(1, (4,)), (2, (1, 2)), (9, (2,))]

    def test_rows_as_the_program_returns_them(self):
        self.assertEqual(paper_of(self.history, [4]), ("clean", self.rows))
        self.take([4], ("clean", self.rows))
        self.take([4, 0, 2, 4], ("clean", self.rows))
        self.take([0], ("clean", []))
        self.take([5], ("clean", [(2, (5,))]))
        self.take([5, 2], ("clean", [(2, (2, 5)), (9, (2,))]))

    def test_rows_too_many_too_few_or_in_another_order(self):
        rows = self.rows
        self.reject([4], ("clean", rows[:2]), ("clean", rows[1:]), ("clean", []), ("clean", rows[::-1]))
        self.reject([4], ("clean", [*rows, rows[-1]]), ("clean", [rows[0], *rows]), ("clean", [*rows, (10, (0,))]))
        self.reject([4], ("clean", [rows[1], rows[0], rows[2]]), ("clean", [rows[0], (2, (1,)), (2, (2,)), rows[2]]))
        self.reject([0], ("clean", [(1, (0,))]), ("clean", [(50, (0,))]), ("clean", [(-1, (0,))]))

    def test_heads_that_are_none(self):
        rows = self.rows
        for heads in [(), (1,), (2,), (2, 1), (1, 1, 2), (1, 2, 2), (0, 1, 2), (1, 2, 3), (1, 2, 4), (1, 2, 5), (4,),
                      (-1, 1, 2), (1, 2, 300), (1, -2)]:
            self.reject([4], ("clean", [rows[0], (2, heads), rows[2]]))
        for heads in [(), (0,), (0, 4), (3,), (3, 4), (4, 4), (6,), (-3,)]:
            self.reject([4], ("clean", [(1, heads), *rows[1:]]))

    def test_a_paper_for_another_list(self):
        self.reject([1], ("clean", self.rows))
        self.reject([4, 5], ("clean", self.rows))
        self.reject([2], ("clean", self.rows))
        self.take([1], ("clean", [(2, (1,))]))

    def test_several_values(self):
        self.history.write(0, {2: 3})
        self.reject([1, 6], ("clean", [(2, (1, 6))]), ("clean", [(2, (1,))]), ("clean", [(2, (6,))]))

    def test_an_unlawful_book(self):
        self.history.write(0, {7: 7})
        self.history.write(0, {8: 7})
        self.history.write(0, {3: 1})
        self.history.write(0, {4: 0})
        self.take([6], ("clean", [(7, (6,))]))
        self.reject([6, 7], ("clean", [(7, (6,)), (8, (7,))]))
        # Place 4 has the value of the start unless somebody empties it.
        self.take([8], ("clean", [(3, (8,))]))
        self.reject([8, 9], ("clean", [(3, (8,)), (4, (9,))]))


class PlaceTest(AcceptsCase):
    def setUp(self):
        AcceptsCase.setUp(self)
        for parent, writes in [(0, {2: 2, 5: 1}), (0, {2: 3, 5: 2}), (1, {5: 3}), (0, {5: 3}), (2, {9: 1})]:
            self.history.write(parent, writes)

    def test_two_heads(self):
        self.take([1, 2], ("place", 2, 1, 2), ("place", 2, 2, 1))

    def test_a_place_that_is_not_the_lowest(self):
        self.take([1, 2], ("place", 5, 1, 2))
        self.take([3, 5], ("place", 5, 3, 2), ("place", 2, 1, 2))

    def test_nodes_that_do_not_show_it(self):
        self.reject([1, 2], ("place", 2, 1, 1), ("place", 2, 0, 1), ("place", 2, 0, 2), ("place", 9, 1, 2))
        # 1 is overwritten at place 5 by 3, which knows it; 3 and 4 write the same value.
        self.reject([3, 2], ("place", 5, 1, 2), ("place", 2, 3, 2), ("place", 9, 3, 2))
        self.reject([3, 4], ("place", 5, 3, 4))
        self.reject([2, 5], ("place", 5, 1, 2), ("place", 2, 2, 5))

    def test_numbers_that_are_no_nodes_or_places(self):
        self.reject([1, 2], ("place", 2, 1, 6), ("place", 2, -1, 1), ("place", 2, 1, 300), ("place", -5, 1, 2),
                    ("place", 2, -5, -6), ("place", 700, 1, 2), ("place", -2, 0, 0))

    def test_a_paper_for_another_list(self):
        self.reject([1], ("place", 2, 1, 2))
        self.reject([4, 1], ("place", 2, 1, 2))


class RuleTest(AcceptsCase):
    def setUp(self):
        AcceptsCase.setUp(self)
        for writes in ({7: 4}, {8: 4}, {3: 2}, {4: 0}, {11: 1}, {12: 1}, {13: 1}, {8: 4}, {8: 5}):
            self.history.write(0, writes)
        self.bar = ((7, 4), (8, 4))

    def test_a_bar_with_its_writers(self):
        self.take([1, 2], ("rule", "unlike", self.bar, (1, 2)))
        self.take([3, 4], ("rule", "link", ((3, 2), (4, 0)), (3, 4)))
        self.take([5, 7, 6], ("rule", "small", ((11, 1), (12, 1), (13, 1)), (5, 6, 7)))

    def test_any_of_the_broken_rules_and_any_of_the_heads(self):
        nodes = list(range(1, 9))
        self.take(nodes, ("rule", "unlike", self.bar, (1, 2)), ("rule", "unlike", self.bar, (1, 8)),
                  ("rule", "link", ((3, 2), (4, 0)), (3, 4)), ("rule", "small", ((11, 1), (12, 1), (13, 1)), (5, 6, 7)))

    def test_a_bar_of_one_of_several_values(self):
        self.take([1, 2, 9], ("rule", "unlike", self.bar, (1, 2)))
        self.reject([1, 9], ("rule", "unlike", self.bar, (1, 9)), ("rule", "unlike", ((7, 4), (8, 5)), (1, 9)))

    def test_a_key_that_the_rule_book_does_not_have(self):
        self.reject([1, 2], ("rule", "alike", self.bar, (1, 2)), ("rule", "", self.bar, (1, 2)),
                    ("rule", "link", self.bar, (1, 2)))

    def test_a_bar_that_is_none(self):
        for bar in [(), ((7, 4),), ((8, 4), (7, 4)), ((7, 4), (7, 4)), ((7, 4), (8, 5)), ((7, 4), (8, 4), (9, 0)),
                    ((7, 0), (8, 0)), ((-7, 4), (8, 4)), ((7, -4), (8, -4)), ((700, 4), (701, 4))]:
            self.reject([1, 2], ("rule", "unlike", bar, (1, 2)), ("rule", "unlike", bar, (1, 2, 0)[:len(bar)]))

    def test_a_bar_of_the_rule_that_is_not_held(self):
        self.reject([1, 2], ("rule", "unlike", ((7, 5), (8, 5)), (1, 2)), ("rule", "link", ((3, 2), (4, 0)), (1, 2)))
        self.reject([5, 6], ("rule", "small", ((11, 3),), (5,)), ("rule", "small", ((11, 1), (12, 1), (13, 1)), (5, 6, 0)))

    def test_writers_that_are_none(self):
        for writers in [(), (1,), (2, 1), (1, 1), (2, 2), (1, 2, 2), (1, 9), (0, 2), (1, 0), (1, 10), (-1, 2), (1, -8),
                        (1, 8), (300, 2)]:
            self.reject([1, 2], ("rule", "unlike", self.bar, writers))

    def test_a_writer_that_is_overwritten(self):
        self.history.write(2, {8: 4})
        self.take([1, 10], ("rule", "unlike", self.bar, (1, 10)))
        self.reject([1, 10], ("rule", "unlike", self.bar, (1, 2)))

    def test_the_start_as_a_writer(self):
        rules = RuleBook([("link", Needs([(3, 4)])), ("total", Total([1, 2], 7))])
        self.history = History(rules, {1: 5, 4: 1})
        self.history.write(0, {2: 1})
        self.history.write(1, {2: 2})
        self.history.write(0, {1: 6})
        self.take([2, 3], ("rule", "total", ((1, 6), (2, 2)), (3, 2)))
        self.reject([2], ("rule", "total", ((1, 6), (2, 2)), (3, 2)), ("rule", "total", ((1, 5), (2, 2)), (0, 2)))

    def test_an_empty_place_that_nobody_has_written(self):
        # A rule of which the start's own 0 is a part is broken only by nodes that do not keep it together.
        rules = RuleBook([("link", Needs([(3, 4)]))])
        self.history = History(rules, {3: 1, 4: 1})
        self.history.write(0, {4: 0, 3: 0})
        self.history.write(0, {3: 2})
        self.take([1, 2], ("rule", "link", ((3, 2), (4, 0)), (2, 1)))
        self.reject([1, 2], ("rule", "link", ((3, 1), (4, 0)), (0, 1)), ("rule", "link", ((3, 2), (4, 0)), (2, 0)))


class OrdersTest(AcceptsCase):
    def setUp(self):
        AcceptsCase.setUp(self)
        for place in (11, 12, 13, 20):
            self.history.write(0, {place: 1})

    def test_two_orders(self):
        self.assertEqual(orders_paper(self.history, [1, 2, 3]), ("orders", (1, 2, 3), (1, 3, 2), 12))
        self.take([1, 2, 3], ("orders", (1, 2, 3), (1, 3, 2), 12))

    def test_any_place_any_orders_and_more_tips(self):
        self.take([1, 2, 3, 4], ("orders", (1, 2, 3), (1, 3, 2), 13), ("orders", (3, 1, 2), (2, 3, 1), 11),
                  ("orders", (4, 3, 1, 2), (2, 3, 1, 4), 12), ("orders", (1, 3, 2), (1, 2, 3), 12))

    def test_places_at_which_they_do_not_differ(self):
        self.reject([1, 2, 3], *[("orders", (1, 2, 3), (1, 3, 2), place) for place in (11, 14, 1, 0, -12, 300)])
        self.reject([1, 2, 3], ("orders", (1, 2, 3), (2, 1, 3), 13), ("orders", (1, 2, 3), (1, 2, 3), 13))

    def test_orders_of_other_nodes(self):
        self.reject([1, 2, 3], ("orders", (1, 2, 3), (1, 3, 4), 12), ("orders", (1, 2), (1, 3), 12),
                    ("orders", (1, 2, 3), (1, 2), 13), ("orders", (1, 2), (1, 2, 3), 13))
        self.reject([1, 2], ("orders", (1, 2, 3), (1, 3, 2), 12))
        self.reject([1, 2, 3, 4], ("orders", (1, 2, 3, 0), (0, 1, 3, 2), 12))

    def test_nodes_twice(self):
        self.reject([1, 2, 3], ("orders", (1, 2, 3, 3), (1, 3, 2, 3), 12), ("orders", (1, 2, 3), (1, 3, 2, 2), 12),
                    ("orders", (1, 1, 2, 3), (1, 3, 2), 12))

    def test_numbers_that_are_no_nodes(self):
        self.reject([1, 2, 3], ("orders", (1, 2, 3, -1), (-1, 1, 3, 2), 12), ("orders", (1, 2, 5), (5, 1, 2), 12),
                    ("orders", (300,), (300,), 12))

    def test_empty_orders(self):
        self.reject([1, 2, 3], ("orders", (), (), 12), ("orders", (), (1, 2, 3), 12), ("orders", (1,), (), 11))


class StuckTest(AcceptsCase):
    def setUp(self):
        AcceptsCase.setUp(self)
        for place in (11, 12, 13):
            self.history.write(0, {place: 1})
        self.family = ((0,), (1,), (2,), (0, 1), (0, 2), (1, 2))

    def test_a_family(self):
        self.assertEqual(stuck_paper(self.history, [3, 1, 2]), ("stuck", self.family))
        self.take([3, 1, 2], ("stuck", self.family), ("stuck", self.family[::-1]), ("stuck", (*self.family, (0,))))

    def test_an_entry_left_out(self):
        for gone in range(6):
            self.reject([1, 2, 3], ("stuck", self.family[:gone] + self.family[gone + 1:]))

    def test_the_tuple_of_all_positions(self):
        self.reject([1, 2, 3], ("stuck", (*self.family, (0, 1, 2))), ("stuck", ((0, 1, 2), *self.family)))

    def test_entries_that_are_none(self):
        for entry in [(), (3,), (-1,), (0, 3), (-1, 0), (1, 0), (2, 2), (0, 0, 1), (2, 1, 0), (300,), (0, 1, 2, 3)]:
            self.reject([1, 2, 3], ("stuck", (*self.family, entry)), ("stuck", (entry, *self.family)))

    def test_a_family_that_is_larger_than_needed(self):
        # Two writes that clash, and a third one: the tips 0 and 1 are not clean, but the entry does no harm.
        self.history.write(0, {20: 1})
        self.history.write(0, {20: 2})
        self.take([4, 5, 1], ("stuck", ((0,), (1,), (2,), (0, 2), (1, 2))),
                  ("stuck", ((0,), (1,), (2,), (0, 1), (0, 2), (1, 2))))

    def test_tips_with_a_clean_order(self):
        self.reject([1, 2], ("stuck", ((0,), (1,))), ("stuck", ((0,), (1,), (0, 1))))
        self.reject([1], ("stuck", ((0,),)), ("stuck", ()))

    def test_an_empty_family(self):
        self.reject([1, 2, 3], ("stuck", ()), ("stuck", ((),)))

    def test_a_paper_for_another_list(self):
        self.reject([1, 2], ("stuck", self.family))
        self.reject([1, 2, 0], ("stuck", self.family))
        self.reject([1, 2, 3, 0], ("stuck", self.family))

    def test_three_hundred_entries(self):
        self.take([1, 2, 3], ("stuck", self.family * 50))
        self.reject([1, 2, 3], ("stuck", tuple((at,) for at in range(300))))


class AnyPaperTest(AcceptsCase):
    def papers(self, history, nodes):
        tips = sorted(set(nodes))
        return [paper for paper in (paper_of(history, nodes), orders_paper(history, tips), stuck_paper(history, tips))
                if paper]

    def test_missing_nodes_of_the_list_alone(self):
        self.history.write(0, {2: 2})
        self.history.write(0, {2: 3})
        for paper in [("clean", []), ("place", 2, 1, 2), ("rule", "unlike", (), ()), ("stuck", ()), ("none", [])]:
            self.check_missing(self.history, lambda history, nodes: accepts(history, nodes, paper), [1, 2])
        self.reject([1, 2], ("place", 2, 1, 3), ("rule", "unlike", ((7, 1), (8, 1)), (9, -9)))

    def test_other_first_words(self):
        self.history.write(0, {2: 2})
        self.history.write(0, {2: 3})
        papers = [("clean", [(2, (1,))]), ("place", 2, 1, 2), ("rule", "link", ((3, 2), (4, 0)), (1, 2)),
                  ("orders", (1, 2), (2, 1), 2), ("stuck", ((0,), (1,)))]
        self.take([1], papers[0])
        self.take([1, 2], papers[1], papers[3], papers[4])
        for paper in papers:
            for word in ("fewest", "", "Clean", "places", "start", "clean", "place", "rule", "orders", "stuck"):
                if word != paper[0]:
                    self.reject([1, 2], (word, *paper[1:]))

    def test_forms_that_belong_to_other_words(self):
        words = ["clean", "place", "rule", "orders", "stuck", "other"]
        forms = [([],), ((),), ([(0, (1,)), (1, (1,))],), (((0,), (1,)),), (((0, 1), (1, 2)),), (((0, 1), (1, 0)),),
                 (1, 1, 0), (0, 0, 0), ("unlike", (), ()), ("unlike", ((7, 4), (8, 4)), (1, 2)), ("", ((0,),), (1,)),
                 ("clean", ((0, 1),), (0,)), ((), (), 0), ((1,), (1,), 1), ((0, 1), (1, 0), 0)]
        self.history.write(0, {0: 1, 1: 6})
        self.take([1], ("clean", [(0, (1,)), (1, (1,))]))
        for form in forms:
            for word in words:
                if (word, *form) != ("clean", [(0, (1,)), (1, (1,))]):
                    self.reject([1], (word, *form))
                    self.reject([0, 1], *[(word, *form)] * (word != "clean"))

    def test_rows_of_an_empty_history(self):
        self.history = History(RuleBook([]), {})
        self.take([0, 0], ("clean", []))
        self.reject([0], ("place", 0, 0, 0), ("rule", "a", ((0, 0),), (0,)), ("orders", (0,), (0,), 0), ("stuck", ((0,),)))

    def test_long_lists(self):
        many = tuple(range(300))
        self.history.write(0, {place: 1 for place in (20, 21)})
        self.reject([0, 1], ("clean", [(place, many) for place in many]), ("orders", many, many, 1),
                    ("stuck", tuple((at,) for at in many)), ("rule", "unlike", tuple((at, 1) for at in many), many))

    def test_spoilt_papers(self):
        """Against the words of the point."""
        chance = random.Random(70)
        seen = {(word, end): 0 for word in ("clean", "place", "rule", "orders", "stuck") for end in (True, False)}
        for _ in range(500):
            history = wide_history(chance)
            nodes = some_nodes(chance, history) if chance.random() < 0.5 else some_tips(chance, history)
            reader = Reader(history, nodes)
            for paper in self.papers(history, nodes):
                for _ in range(12):
                    wrong = spoilt(chance, history, paper)
                    if chance.random() < 0.2:
                        wrong = spoilt(chance, history, wrong)
                    if wrong[0] in ("orders", "stuck") and len(set(nodes)) < len(nodes):
                        continue
                    expected = reader.accepts(wrong)
                    self.assertIs(accepts(history, nodes, wrong), expected, (nodes, wrong))
                    seen[(wrong[0], expected)] += 1
        self.assertGreater(min(seen.values()), 10)

    def test_papers_of_other_lists(self):
        chance = random.Random(701)
        taken = [0, 0]
        for _ in range(300):
            history = wide_history(chance)
            nodes, others = some_tips(chance, history), some_tips(chance, history)
            reader = Reader(history, others)
            for paper in self.papers(history, nodes):
                expected = reader.accepts(paper)
                self.assertIs(accepts(history, others, paper), expected)
                taken[expected] += 1
        self.assertGreater(min(taken), 50)


if __name__ == "__main__":
    unittest.main()
