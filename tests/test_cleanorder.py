"""Points 3, 53, 54 and 55: clean orders, and how all orders end."""

import random
import unittest
from itertools import combinations, permutations

from forkedshelves.cleanorder import clean_order, ends, stuck_family
from forkedshelves.heads import clash_of
from forkedshelves.history import History
from forkedshelves.orders import least_clash, play_order
from forkedshelves.pairs import Apart, Needs
from forkedshelves.rulebook import RuleBook
from forkedshelves.sums import Total
from tests.histories import PLACES, HistoryCase, random_history, random_writes, some_rules
from tests.test_orders import some_tips, wide_history


def model_clean_order(history, tips):
    for order in permutations(tips):
        if play_order(history, list(order))[1] == []:
            return list(order)
    return None


def model_family(history, tips):
    """All reached sets of positions in the order of point 53."""
    positions = range(len(tips))
    family = []
    for many in range(1, len(tips) + 1):
        for chosen in combinations(positions, many):
            if any(play_order(history, [tips[at] for at in order])[1] == [] for order in permutations(chosen)):
                family.append(list(chosen))
    return family


def model_ends(history, tips):
    found = {}
    for order in permutations(range(len(tips))):
        kept = []
        for at in order:
            if clash_of(history, [tips[other] for other in [*kept, at]]) is None:
                kept.append(at)
        found.setdefault(tuple(sorted(kept)), list(order))
    return sorted([(list(kept), order) for kept, order in found.items()], key=lambda pair: pair[1])


def stuck_but_clean():
    """Three tips that are clean together, of which no two are: each two clash at a place that the third one answers."""
    history = History(RuleBook([]), {})
    writes = [history.write(0, {place: 1}) for place in (1, 2, 3)]
    others = [history.write(0, {place: 2}) for place in (1, 2, 3)]
    tips = []
    for at in range(3):
        after = (at + 1) % 3
        # It knows both values of its own place, one value of the next place and the other value of the last one.
        parents = [writes[at], others[at], writes[after], others[(at + 2) % 3]]
        tips.append(history.merge(parents, answers={at + 1: 3}))
    return history, tips


class CleanOrderTest(HistoryCase):
    def setUp(self):
        self.history = History(RuleBook([("small", Total([1, 2, 3], 2))]), {})

    def answered(self):
        """Two writes that clash, and a merge that answers them."""
        tips = [self.history.write(0, {9: 1}), self.history.write(0, {9: 2})]
        return [*tips, self.history.merge(tips, answers={9: 3})]

    def test_tips_without_a_clash(self):
        self.history.write(0, {1: 1})
        self.history.write(0, {2: 1})
        for tips in ([0], [1], [2, 1], [1, 0, 2]):
            self.check_on(self.history, tips, clean_order, tips)
            self.check_on(self.history, None, stuck_family, tips)

    def test_the_least_order(self):
        tips = self.answered()
        self.check_on(self.history, [1, 3, 2], clean_order, tips)
        self.check_on(self.history, [2, 3, 1], clean_order, [2, 1, 3])
        self.check_on(self.history, [3, 2, 1], clean_order, [3, 2, 1])
        self.check_on(self.history, [2, 3, 1], clean_order, [2, 3, 1])
        self.check_on(self.history, [1, 0, 3, 2], clean_order, [1, 2, 0, 3])
        self.check_on(self.history, None, stuck_family, tips)

    def test_no_clean_order(self):
        history = self.history
        history.write(0, {9: 1})
        history.write(0, {9: 2})
        self.check_on(history, None, clean_order, [2, 1])
        self.check_on(history, [[0], [1]], stuck_family, [2, 1])
        self.check_on(history, [[0], [1], [2], [0, 1], [0, 2]], stuck_family, [0, 1, 2])

    def test_three_tips_of_which_only_all_together_clash(self):
        tips = [self.history.write(0, {place: 1}) for place in (1, 2, 3)]
        self.check_on(self.history, None, clean_order, tips)
        self.check_on(self.history, [[0], [1], [2], [0, 1], [0, 2], [1, 2]], stuck_family, tips)

    def test_tips_that_answer_one_another(self):
        history = self.history
        writes = [history.write(0, {7: value}) for value in (1, 2, 3)]
        answers = [history.merge(writes[:2], answers={7: 4}), history.merge(writes[1:], answers={7: 4})]
        self.check_on(history, [1, 4, 2, 5, 3], clean_order, [*writes, *answers])
        answers.append(history.merge([1, 3], answers={7: 5}))
        self.check_on(history, None, clean_order, [4, 6])
        self.check_on(history, [[0], [1], [2], [0, 2]], stuck_family, [4, 6, 5])

    def test_a_set_that_is_clean_but_not_reached_is_not_in_the_family(self):
        history, tips = stuck_but_clean()
        self.assertIsNone(clash_of(history, tips))
        self.check_on(history, None, clean_order, tips)
        self.check_on(history, [[0], [1], [2]], stuck_family, tips)

    def test_five_and_six_tips(self):
        history = self.history
        tips = self.answered() + [history.write(0, {20: 1}), history.write(0, {21: 1}), 0]
        self.check_on(history, [1, 3, 2, 4, 5], clean_order, tips[:5])
        self.check_on(history, [0, 5, 4, 2, 3, 1], clean_order, [0, 5, 4, 2, 1, 3])
        tips[2] = history.write(0, {9: 3})
        self.check_on(history, model_family(history, tips), stuck_family, tips)

    def test_missing_nodes(self):
        self.answered()
        for function in (clean_order, stuck_family, ends):
            self.check_missing(self.history, function, [1, 2, 3])

    def test_random_histories(self):
        chance = random.Random(53)
        found = [0, 0, 0]
        for _ in range(250):
            history = wide_history(chance)
            tips = some_tips(chance, history)
            expected = model_clean_order(history, tips)
            self.check_on(history, expected, clean_order, tips)
            family = model_family(history, tips)
            self.check_on(history, None if expected else family, stuck_family, tips)
            found[0 if expected is None else 1 if expected == tips else 2] += 1
            self.assertEqual(family[:len(tips)], [[at] for at in range(len(tips))])
        self.assertGreater(min(found), 3)


class EndsTest(HistoryCase):
    def setUp(self):
        self.history = History(RuleBook([("unlike", Apart([7, 8]))]), {})

    def test_one_end(self):
        tips = [self.history.write(0, {7: 1}), self.history.write(0, {8: 2})]
        self.check_on(self.history, [([0, 1], [0, 1])], ends, tips)
        self.check_on(self.history, [([0], [0])], ends, [2])
        self.check_on(self.history, [([0, 1, 2], [0, 1, 2])], ends, [2, 0, 1])

    def test_two_ends(self):
        tips = [self.history.write(0, {7: 1}), self.history.write(0, {5: 1}), self.history.write(0, {8: 1})]
        self.check_on(self.history, [([0, 1], [0, 1, 2]), ([1, 2], [1, 2, 0])], ends, tips)
        self.check_on(self.history, [([0, 1], [0, 1, 2]), ([1, 2], [1, 2, 0])], ends, tips[::-1])

    def test_a_tip_that_answers(self):
        history = self.history
        tips = [history.write(0, {9: 1}), history.write(0, {9: 2})]
        tips.append(history.merge(tips, answers={9: 3}))
        self.check_on(history, [([0, 2], [0, 1, 2]), ([0, 1, 2], [0, 2, 1]), ([1, 2], [1, 0, 2])], ends, tips)

    def test_five_tips(self):
        tips = [self.history.write(0, {9: value, 20 + value: 1}) for value in (1, 1, 2, 2, 3)]
        self.check_on(self.history, [([0, 1], [0, 1, 2, 3, 4]), ([2, 3], [2, 0, 1, 3, 4]), ([4], [4, 0, 1, 2, 3])],
                      ends, tips)

    def test_random_histories(self):
        chance = random.Random(54)
        several = 0
        for _ in range(120):
            history = wide_history(chance)
            tips = some_tips(chance, history)
            expected = model_ends(history, tips)
            self.check_on(history, expected, ends, tips)
            several += len(expected) > 1
            if least_clash(history, tips) is None:
                everything = list(range(len(tips)))
                self.assertEqual(expected, [(everything, everything)])
        self.assertGreater(several, 20)

    def test_writes_on_one_node_with_rules_of_two_marks(self):
        """Point 55: each two decide, and the ends are the largest clean sets."""
        chance = random.Random(55)
        several = 0
        for _ in range(120):
            narrow = RuleBook([("apart", Apart(chance.sample(PLACES, 3))), ("needs", Needs([tuple(PLACES)[:2]]))])
            rules = some_rules(chance)
            history = random_history(chance, 5, rules if rules.largest_width() == 2 else narrow)
            node = chance.choice(list(history))
            tips = []
            while len(tips) < 4:
                writes = random_writes(chance)
                if history.rulebook.is_lawful(model_written(history.book(node), writes)):
                    tips.append(history.write(node, writes))
            clean = []
            for many in range(1, 5):
                for chosen in combinations(range(4), many):
                    pairs = [clash_of(history, [tips[at] for at in pair]) for pair in combinations(chosen, 2)]
                    self.assertEqual(clash_of(history, [tips[at] for at in chosen]) is None, pairs == [None] * len(pairs))
                    if not any(pairs):
                        clean.append(list(chosen))
            largest = [chosen for chosen in clean if not any(set(chosen) < set(other) for other in clean)]
            several += len(largest) > 1
            self.assertEqual(sorted(kept for kept, _ in ends(history, tips)), sorted(largest))
        self.assertGreater(several, 20)


def model_written(book, writes):
    return {place: value for place, value in {**book, **writes}.items() if value > 0}


if __name__ == "__main__":
    unittest.main()
