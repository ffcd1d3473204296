"""Points 3, 49, 50 and 51: orders of merging."""

import random
import unittest
from itertools import combinations, permutations

from forkedshelves.heads import clash_of, merged_book
from forkedshelves.history import History
from forkedshelves.listed import Ban
from forkedshelves.nests import Nest
from forkedshelves.orders import least_clash, parting_places, play_order, two_orders
from forkedshelves.pairs import Apart, Needs, Order
from forkedshelves.rulebook import RuleBook
from forkedshelves.sums import AtLeast, AtMost, Total
from forkedshelves.tight import tight_forks
from tests.histories import HistoryCase, model_clash, random_history, random_merge


def some_tips(chance, history, most=4):
    """Different nodes of a history, in any order, mostly not the start."""
    nodes = list(history)[chance.randint(0, 1):] or [0]
    return chance.sample(nodes, min(len(nodes), chance.randint(1, most)))


def wide_history(chance):
    """A history whose nodes often clash: by bars of two or three marks, or at places that merges answer."""
    kind = chance.choice(["any", "wide", "answers"])
    if kind == "any":
        return random_history(chance)
    if kind == "wide":
        rule = chance.choice([Total([0, 1, 2, 3, 4], 2), AtMost([0, 1, 2, 3], 2), Apart([0, 1, 2])])
        history = History(RuleBook([("rule", rule)]), {})
        for place in chance.sample(range(5), 4):
            history.write(0, {place: chance.choice([1, 1, 1, 2])})
        return history
    history = History(RuleBook([]), {})
    writes = [history.write(0, {0: value}) for value in range(1, chance.randint(3, 4))]
    for _ in range(chance.randint(1, 2)):
        random_merge(chance, history, chance.sample(writes, 2))
    return history


def sub_lists(tips):
    return [list(chosen) for many in range(1, len(tips) + 1) for chosen in combinations(tips, many)]


class LeastClashTest(HistoryCase):
    def setUp(self):
        self.history = History(RuleBook([("small", Total([1, 2, 3, 4], 2)), ("unlike", Apart([7, 8]))]), {})

    def test_the_example_of_the_document(self):
        history = History(RuleBook([("small", Total([1, 2, 3], 2))]), {})
        tips = [history.write(0, {1: 1}), history.write(0, {2: 1}), history.write(0, {3: 1})]
        self.check_on(history, None, least_clash, tips[:2])
        self.check_on(history, [1, 2, 3], least_clash, tips)
        self.check_on(history, ([1, 2, 3], [1, 3, 2]), two_orders, tips)

    def test_lists_all_of_whose_sub_lists_are_clean(self):
        tips = [self.history.write(0, {place: 1}) for place in (1, 2, 5, 7)]
        self.check_on(self.history, None, least_clash, tips)
        for tip in [0, *tips]:
            self.check_on(self.history, None, least_clash, [tip])

    def test_two_tips(self):
        tips = [self.history.write(0, {7: 1}), self.history.write(0, {5: 1}), self.history.write(0, {8: 1})]
        self.check_on(self.history, [1, 3], least_clash, tips)
        self.check_on(self.history, [3, 1], least_clash, tips[::-1])
        self.check_on(self.history, None, least_clash, tips[:2])

    def test_the_fewest_tips(self):
        # The first three clash only together, the last two clash as well.
        tips = [self.history.write(0, {place: 1}) for place in (1, 2, 3, 7, 8)]
        self.check_on(self.history, tips[3:], least_clash, tips)
        self.check_on(self.history, tips[:3], least_clash, tips[:4])

    def test_the_least_of_equally_many(self):
        history = self.history
        tips = [history.write(0, {9: value, place: 1}) for place, value in ((20, 1), (21, 1), (22, 2), (23, 3))]
        self.check_on(history, [1, 3], least_clash, tips)
        self.check_on(history, [4, 3], least_clash, tips[::-1])
        # By the positions in the list, not by the numbers of the nodes.
        self.check_on(history, [3, 1], least_clash, [3, 1, 2, 4])
        self.check_on(history, [2, 4], least_clash, [2, 1, 4, 3])

    def test_three_tips_of_which_only_all_together_clash(self):
        tips = [self.history.write(0, {place: 1}) for place in (1, 5, 2, 6, 3, 4)]
        self.check_on(self.history, [1, 3, 5], least_clash, tips)
        self.check_on(self.history, [1, 3, 6], least_clash, [1, 2, 3, 6, 5])

    def test_a_clean_list_with_a_sub_list_that_is_not_clean(self):
        history = self.history
        tips = [history.write(0, {9: 1}), history.write(0, {9: 2})]
        tips.append(history.merge(tips, answers={9: 3}))
        self.check_on(history, None, clash_of, tips)
        self.check_on(history, [1, 2], least_clash, tips)
        self.check_on(history, [2, 1], least_clash, [3, 2, 1])

    def test_tips_in_the_past_of_other_tips(self):
        history = self.history
        tips = [history.write(0, {9: 1})]
        tips.append(history.write(tips[0], {9: 2}))
        tips.append(history.write(0, {9: 3}))
        self.check_on(history, None, least_clash, [0, *tips[:2]])
        self.check_on(history, [1, 3], least_clash, [0, *tips])

    def test_as_many_tips_as_the_widest_bar_has_marks(self):
        for rule, bar in ((AtMost(list(range(5)), 4), tuple((place, 1) for place in range(5))),
                          (Total([0, 1, 2, 3], 3), ((0, 1), (1, 1), (2, 1), (3, 1))),
                          (AtLeast([0, 1, 2, 3], 1), ((0, 0), (1, 0), (2, 0), (3, 0))),
                          (Nest([4, 5, 6]), ((4, 2), (5, 3), (6, 1))),
                          (Ban([[(0, 1), (1, 0), (2, 1)]]), ((0, 1), (1, 0), (2, 1))),
                          (Needs([(1, 2)]), ((1, 3), (2, 0)))):
            base, forks = tight_forks(rule, bar)
            history = History(RuleBook([("tight", rule)]), base)
            tips = [history.write(0, {place: book.get(place, 0)}) for (place, _), book in zip(bar, forks)]
            self.check_on(history, tips, least_clash, tips)
            self.check_on(history, None, least_clash, tips[1:])

    def test_missing_nodes(self):
        self.history.write(0, {9: 1})
        self.history.write(0, {9: 2})
        self.check_missing(self.history, least_clash, [0, 1, 2])
        self.check_missing(self.history, two_orders, [0, 1, 2])
        # The first two clash, and one tip alone clashes with nothing.
        for function in (least_clash, two_orders):
            self.check_missing(self.history, function, [1, 2, 0])
            self.check_missing(self.history, function, [1])

    def test_random_histories(self):
        chance = random.Random(49)
        sizes = []
        for _ in range(250):
            history = wide_history(chance)
            tips = some_tips(chance, history, 5)
            clashing = [chosen for chosen in sub_lists(tips) if model_clash(history, chosen)]
            expected = clashing[0] if clashing else None
            self.check_on(history, expected, least_clash, tips)
            sizes.append(len(expected or []))
            self.assertLessEqual(sizes[-1], history.rulebook.largest_width())
        self.assertGreater(min(sizes.count(size) for size in (0, 2, 3)), 5)


class PlayOrderTest(HistoryCase):
    def setUp(self):
        self.history = History(RuleBook([("unlike", Apart([7, 8])), ("order", Order(3, 4, 1))]), {})

    def test_kept_and_refused(self):
        tips = [self.history.write(0, {7: 1}), self.history.write(0, {8: 1}), self.history.write(0, {5: 1})]
        self.check_on(self.history, ([1, 3], [2]), play_order, tips)
        self.check_on(self.history, ([2, 3], [1]), play_order, [2, 1, 3])
        self.check_on(self.history, ([3], []), play_order, [3])
        self.check_on(self.history, ([3, 0, 2], [1]), play_order, [3, 0, 2, 1])

    def test_a_refused_tip_is_not_tried_again(self):
        history = self.history
        tips = [history.write(0, {9: 1}), history.write(0, {9: 2})]
        tips.append(history.merge(tips, answers={9: 3}))
        # With all three of them nothing clashes, but the second one is refused before the third one comes.
        self.check_on(history, ([1, 3], [2]), play_order, [1, 2, 3])
        self.check_on(history, ([3, 1, 2], []), play_order, [3, 1, 2])
        self.check_on(history, ([1, 3, 2], []), play_order, [1, 3, 2])

    def test_tips_in_the_past_of_other_tips(self):
        history = self.history
        first = history.write(0, {9: 1})
        second = history.write(first, {9: 2})
        self.check_on(history, ([0, first, second], []), play_order, [0, first, second])
        self.check_on(history, ([second, 0, first], []), play_order, [second, 0, first])

    def test_several_refused_tips(self):
        tips = [self.history.write(0, {9: value}) for value in (1, 2, 1, 3)]
        self.check_on(self.history, ([1, 3], [2, 4]), play_order, tips)
        self.check_on(self.history, ([4], [3, 2, 1]), play_order, tips[::-1])

    def test_missing_nodes(self):
        self.history.write(0, {9: 1})
        self.history.write(0, {9: 2})
        self.check_missing(self.history, play_order, [1, 2, 0])
        self.check_missing(self.history, parting_places, [1, 2], [2, 0])

    def test_random_histories(self):
        """By the words of the point; and a least clash tells whether some order refuses a tip."""
        chance = random.Random(50)
        for _ in range(80):
            history = wide_history(chance)
            tips = some_tips(chance, history)
            books, refusals = [], 0
            for order in permutations(tips):
                kept, refused = [], []
                for tip in order:
                    (refused if model_clash(history, [*kept, tip]) else kept).append(tip)
                self.check_on(history, (kept, refused), play_order, list(order))
                refusals += len(refused)
                books.append(merged_book(history, kept))
            clash = least_clash(history, tips)
            self.assertEqual(refusals > 0, clash is not None)
            if clash is None:
                self.assertTrue(all(book == books[0] for book in books))


class TwoOrdersTest(HistoryCase):
    def test_two_tips(self):
        history = History(RuleBook([]), {})
        tips = [history.write(0, {9: value}) for value in (1, 2, 3)]
        self.check_on(history, ([1, 2], [2, 1]), two_orders, tips)
        self.check_on(history, None, two_orders, [2, 0])
        self.check_on(history, [9], parting_places, [1, 2], [2, 1])
        self.check_on(history, [], parting_places, [1, 2], [1, 3])

    def test_parting_places(self):
        history = History(RuleBook([("unlike", Apart([1, 2]))]), {1: 5, 6: 6})
        history.write(0, {1: 4, 9: 1, 6: 0})
        history.write(0, {2: 4, 9: 1, 20: 2})
        self.check_on(history, [1, 2, 6, 20], parting_places, [1, 2], [2, 1])
        self.check_on(history, [1, 6, 9], parting_places, [0], [1])
        self.check_on(history, [], parting_places, [1], [1, 2, 0])

    def test_random_histories(self):
        chance = random.Random(51)
        parted = 0
        for _ in range(150):
            history = wide_history(chance)
            tips = some_tips(chance, history)
            clash = least_clash(history, tips)
            if clash is None:
                self.check_on(history, None, two_orders, tips)
                continue
            parted += 1
            orders = (clash, [*clash[:-2], clash[-1], clash[-2]])
            self.check_on(history, orders, two_orders, tips)
            books = []
            for order in orders:
                kept, refused = play_order(history, order)
                self.assertEqual([kept, refused], [order[:-1], order[-1:]])
                books.append(merged_book(history, kept))
            places = [place for place in range(9) if books[0].get(place, 0) != books[1].get(place, 0)]
            self.assertTrue(places)
            self.check_on(history, places, parting_places, *orders)
            for fewer in combinations(tips, len(clash) - 1):
                self.assertTrue(all(play_order(history, list(order))[1] == [] for order in permutations(fewer)))
        self.assertGreater(parted, 30)


if __name__ == "__main__":
    unittest.main()
