"""Points 3, 24, 25 and 26."""

import random
import unittest
from itertools import combinations

from forkedshelves.books import with_writes
from forkedshelves.errors import BrokenRun, OpenChoice, ShelfError, Unlawful
from forkedshelves.listed import Ban
from forkedshelves.pairs import Apart, Match, Needs, Order
from forkedshelves.picks import open_place, pick, rests_on, with_dependents, with_needed
from forkedshelves.rulebook import RuleBook
from forkedshelves.runs import play_run
from forkedshelves.sums import AtLeast, Total
from tests.helpers import WatchedCase
from tests.runcases import is_closed, random_choice, random_rulebook, random_run, supports


def choices_of(run):
    """All choices of a run, ascending."""
    return [list(choice) for many in range(len(run) + 1) for choice in combinations(range(len(run)), many)]


class RestsOnTest(WatchedCase):
    def setUp(self):
        self.rules = RuleBook([("unlike", Apart([1, 2, 3])), ("link", Needs([(2, 4)])), ("next", Needs([(4, 5)])),
                               ("none", Match(7, [], 8, [1])), ("again", Order(1, 2, 0))])

    def test_the_empty_run_and_one_deed(self):
        self.check([], rests_on, self.rules, [])
        self.check([[]], rests_on, self.rules, [{1: 1}])

    def test_the_last_earlier_writer_of_each_place(self):
        run = [{1: 1}, {1: 2}, {3: 3}, {2: 4}, {1: 5}]
        self.check([[], [], [1], [1, 2], [2, 3]], rests_on, self.rules, run)

    def test_places_that_a_deed_writes_itself(self):
        # Each deed writes both mates, so that it leans on the third one alone.
        self.check([[], []], rests_on, self.rules, [{1: 1, 2: 2}, {1: 3, 2: 4}])
        self.check([[], [0], [1]], rests_on, self.rules, [{1: 1}, {3: 1}, {1: 2, 2: 2}])

    def test_the_same_place_is_no_mate_of_itself(self):
        self.check([[], [], []], rests_on, self.rules, [{9: 1}, {9: 2}, {9: 1}])
        self.check([[], []], rests_on, self.rules, [{5: 1}, {5: 1}])

    def test_mates_that_several_rules_give_and_rules_without_bars(self):
        self.check([[], [0]], rests_on, self.rules, [{1: 1}, {2: 2}])
        self.check([[], [0], [1]], rests_on, self.rules, [{8: 1}, {7: 1}, {8: 0}])

    def test_a_deed_that_is_the_last_writer_of_several_places(self):
        self.check([[], [], [1]], rests_on, self.rules, [{1: 1}, {1: 5, 3: 6, 4: 7}, {2: 8}])

    def test_writes_of_0(self):
        self.check([[], [0]], rests_on, self.rules, [{1: 0}, {2: 0}])

    def test_leaning_goes_one_step(self):
        # 2 is a mate of 4, and 4 of 5, but 2 is no mate of 5.
        self.check([[], []], rests_on, self.rules, [{5: 1}, {2: 1}])

    def test_random_runs(self):
        chance = random.Random(241)
        for _ in range(200):
            rules, run = random_rulebook(chance), random_run(chance, chance.randint(0, 9))
            expected = [sorted({at for _, at in supports(rules, run, later)}) for later in range(len(run))]
            self.check(expected, rests_on, rules, run)


class ChoiceTest(WatchedCase):
    def setUp(self):
        self.rules = RuleBook([("a", Apart([1, 2])), ("b", Apart([2, 3])), ("c", Needs([(4, 1)]))])
        self.run = [{1: 1}, {5: 1}, {2: 2}, {1: 3}, {3: 4}, {4: 5}]

    def test_with_needed(self):
        self.assertEqual(rests_on(self.rules, self.run), [[], [], [0], [2], [2], [3]])
        self.check([], with_needed, self.rules, self.run, [])
        self.check([1], with_needed, self.rules, self.run, [1])
        self.check([0, 2], with_needed, self.rules, self.run, [2])
        self.check([0, 2, 3, 5], with_needed, self.rules, self.run, [5])
        self.check([0, 1, 2, 4], with_needed, self.rules, self.run, [4, 1])
        self.check([0, 1, 2, 3, 4, 5], with_needed, self.rules, self.run, [5, 4, 3, 2, 1, 0])

    def test_with_dependents(self):
        self.check([], with_dependents, self.rules, self.run, [])
        self.check([1], with_dependents, self.rules, self.run, [1])
        self.check([5], with_dependents, self.rules, self.run, [5])
        self.check([3, 5], with_dependents, self.rules, self.run, [3])
        self.check([1, 4, 5], with_dependents, self.rules, self.run, [5, 1, 4])
        self.check([0, 2, 3, 4, 5], with_dependents, self.rules, self.run, [0])

    def test_open_place(self):
        self.check(None, open_place, self.rules, self.run, [])
        self.check(None, open_place, self.rules, self.run, [2, 0])
        self.check((2, 1, 0), open_place, self.rules, self.run, [2])
        self.check((5, 1, 3), open_place, self.rules, self.run, [5])
        self.check((4, 2, 2), open_place, self.rules, self.run, [5, 4])
        self.check((5, 1, 3), open_place, self.rules, self.run, [5, 1, 0])

    def test_the_lowest_position_comes_before_the_lowest_place(self):
        rules = RuleBook([("a", Apart([1, 6])), ("b", Apart([8, 9]))])
        run = [{1: 1}, {8: 1}, {9: 2}, {6: 2}]
        self.check((2, 8, 1), open_place, rules, run, [3, 2])
        self.check((3, 1, 0), open_place, rules, run, [3, 1, 2])

    def test_the_lowest_place_at_which_something_is_missing(self):
        rules = RuleBook([("a", Apart([6, 3])), ("b", Apart([6, 1])), ("c", Apart([2, 6]))])
        run = [{3: 1}, {2: 2}, {1: 3}, {6: 4}]
        self.check((3, 1, 2), open_place, rules, run, [3])
        self.check((3, 1, 2), open_place, rules, run, [3, 0, 1])
        self.check((3, 2, 1), open_place, rules, run, [3, 2, 0])
        self.check((3, 3, 0), open_place, rules, run, [3, 1, 2])

    def test_the_last_writer_counts_even_if_an_earlier_one_is_chosen(self):
        self.check((2, 1, 1), open_place, self.rules, [{1: 1}, {1: 2}, {2: 3}], [0, 2])

    def test_against_all_choices(self):
        chance = random.Random(251)
        for _ in range(40):
            rules, run = random_rulebook(chance), random_run(chance, chance.randint(0, 6))
            every = choices_of(run)
            closed = [choice for choice in every if is_closed(rules, run, choice)]
            for choice in every:
                shuffled = chance.sample(choice, len(choice))
                around = [other for other in closed if set(choice) <= set(other)]
                self.assertEqual(with_needed(rules, run, shuffled), min(around, key=len))
                left = [other for other in closed if not set(choice) & set(other)]
                back = [at for at in range(len(run)) if at not in max(left, key=len)]
                self.assertEqual(with_dependents(rules, run, shuffled), back)
                self.check_open_place(rules, run, shuffled)

    def check_open_place(self, rules, run, choice):
        found = [(at, place, missing) for at in choice for place, missing in supports(rules, run, at)
                 if missing not in choice]
        self.check(min(found) if found else None, open_place, rules, run, choice)

    def test_forty_deeds(self):
        rules = RuleBook([("row", Ban([[(place, 1), (place + 1, 1)] for place in range(39)]))])
        run = [{place: 2} for place in range(40)]
        self.assertEqual(with_needed(rules, run, [39]), list(range(40)))
        self.assertEqual(with_dependents(rules, run, [1]), list(range(1, 40)))
        self.assertEqual(open_place(rules, run, list(range(39, 0, -1))), (1, 0, 0))


class PickTest(WatchedCase):
    def setUp(self):
        self.rules = RuleBook([("unlike", Apart([1, 2])), ("link", Needs([(3, 1)]))])

    def test_the_deeds_of_the_choice_in_the_order_of_the_run(self):
        run = [{1: 4}, {5: 1}, {5: 2}, {3: 1}, {5: 0, 6: 6}]
        self.check({1: 4, 3: 1, 9: 9}, pick, self.rules, {9: 9}, run, [3, 0])
        self.check({5: 2, 9: 9}, pick, self.rules, {9: 9}, run, [2, 1])
        self.check({5: 1}, pick, self.rules, {}, run, [1])
        self.check({1: 4, 3: 1, 6: 6}, pick, self.rules, {}, run, [4, 3, 2, 1, 0])

    def test_the_empty_choice(self):
        self.check({1: 4}, pick, self.rules, {1: 4}, [{5: 1}], [])
        book = {1: 4}
        self.assertIsNot(pick(self.rules, book, [], []), book)
        self.assertIsNot(pick(self.rules, book, [{5: 1}], []), book)
        self.check({}, pick, self.rules, {}, [], [])

    def test_an_unlawful_book(self):
        bar = ((1, 0), (3, 2))
        for choice in ([], [0], [1], [0, 1]):
            self.refuse(Unlawful, {"key": "link", "bar": bar}, pick, self.rules, {3: 2}, [{1: 1}, {2: 1}], choice)

    def test_a_broken_run(self):
        fields = {"position": 1, "key": "unlike", "bar": ((1, 4), (2, 4))}
        for choice in ([], [0], [1], [2], [0, 1, 2]):
            self.refuse(BrokenRun, fields, pick, self.rules, {}, [{1: 4}, {2: 4}, {2: 5}], choice)

    def test_an_open_choice(self):
        run = [{1: 4}, {5: 1}, {3: 1}, {2: 5}]
        fields = {"position": 2, "place": 1, "missing": 0}
        self.refuse(OpenChoice, fields, pick, self.rules, {}, run, [3, 2])
        self.refuse(OpenChoice, {"position": 3, "place": 1, "missing": 0}, pick, self.rules, {}, run, [3, 1])
        # Open although the deeds alone would be lawful.
        self.refuse(OpenChoice, {"position": 3, "place": 1, "missing": 0}, pick, self.rules, {}, run, [3])
        self.refuse(OpenChoice, fields, pick, self.rules, {1: 9}, run, [2])

    def test_closed_choices_are_lawful_runs(self):
        """Whatever bars the rules have, also those with several marks."""
        chance = random.Random(26)
        picked = 0
        for _ in range(600):
            rules = RuleBook([("a", Total(chance.sample(range(7), 3), chance.randint(1, 4))),
                              ("b", Needs([tuple(chance.sample(range(7), 2))])),
                              ("c", AtLeast(chance.sample(range(7), 3), 1)),
                              ("d", Ban([[(at, chance.randint(0, 2)) for at in chance.sample(range(7), 2)]]))])
            run = random_run(chance, chance.randint(1, 6), 7)
            book = {place: chance.randint(1, 2) for place in range(7) if chance.random() < 0.5}
            choice = with_needed(rules, run, random_choice(chance, run))
            try:
                play_run(rules, book, run)
            except ShelfError:
                continue
            picked += len(choice) < len(run)
            books = play_run(rules, book, [run[at] for at in choice])
            self.assertEqual(pick(rules, book, run, choice[::-1]), [book, *books][-1])
        self.assertGreater(picked, 30)

    def test_the_result_is_the_book_of_the_deeds_alone(self):
        chance = random.Random(261)
        for _ in range(60):
            run = random_run(chance, 6)
            choice = random_choice(chance, run)
            expected = {0: 5}
            for at in sorted(choice):
                expected = with_writes(expected, run[at])
            self.check(expected, pick, RuleBook([]), {0: 5}, run, choice)


if __name__ == "__main__":
    unittest.main()
