"""Points 3 and 27."""

import random
import unittest

from forkedshelves.breaking import breaking_case
from forkedshelves.errors import BrokenRun, ClosedChoice
from forkedshelves.listed import Ban
from forkedshelves.pairs import Apart, Match, Needs
from forkedshelves.picks import open_place
from forkedshelves.rulebook import RuleBook
from forkedshelves.runs import play_run
from tests.helpers import WatchedCase
from tests.runcases import random_choice, random_rulebook, random_run


class BreakingCaseTest(WatchedCase):
    def check_case(self, rules, run, choice):
        """Check a case by the words of the point."""
        result = self.call(breaking_case, rules, run, choice)
        self.assertIs(type(result), tuple)
        new_run, bar = result
        self.assertEqual([sorted(deed) for deed in new_run], [sorted(deed) for deed in run])
        values = [value for deed in new_run for value in deed.values()]
        self.assertTrue(all(value > 0 for value in values))
        self.assertEqual(len(set(values)), len(values))
        self.assertIs(type(bar), tuple)
        self.assertEqual(len(bar), 2)
        self.assertEqual(list(bar), sorted(bar))
        self.assertTrue(all(type(mark) is tuple for mark in bar))
        (first, _), (second, _) = bar
        self.assertIn(second, rules.mates(first))
        banned = RuleBook([("ban", Ban([bar]))])
        play_run(banned, {}, new_run)
        with self.assertRaises(BrokenRun):
            play_run(banned, {}, [new_run[at] for at in sorted(choice)])
        self.check_new(breaking_case, rules, run, choice)
        return bar

    def setUp(self):
        self.rules = RuleBook([("unlike", Apart([1, 2])), ("link", Needs([(3, 1)])), ("none", Match(7, [], 8, [1]))])

    def test_the_place_is_empty_without_the_missing_deed(self):
        bar = self.check_case(self.rules, [{1: 4}, {2: 5}], [1])
        self.assertIn((1, 0), bar)
        self.check_case(self.rules, [{8: 0}, {7: 0}], [1])

    def test_the_place_has_an_older_value_without_the_missing_deed(self):
        bar = self.check_case(self.rules, [{1: 4}, {1: 0}, {2: 5}], [2, 0])
        self.assertTrue(all(value > 0 for _, value in bar))
        self.check_case(self.rules, [{1: 4, 5: 1}, {1: 6}, {1: 0, 6: 1}, {5: 0, 2: 5}], [3, 0, 1])

    def test_later_deeds_write_both_places_again(self):
        run = [{1: 4}, {2: 5}, {1: 4}, {2: 5}, {1: 1, 2: 2}]
        for choice in ([1], [4, 1], [3, 2, 1], [3, 0, 1], [4, 3, 0]):
            self.check_case(self.rules, run, choice)

    def test_only_a_later_deed_of_the_choice_lacks_one(self):
        self.check_case(self.rules, [{1: 1}, {3: 1}, {5: 1}, {1: 2}, {2: 2}], [0, 1, 4])

    def test_deeds_that_write_several_places(self):
        self.check_case(self.rules, [{1: 1, 9: 1}, {9: 2, 2: 5, 0: 3}], [1])
        self.check_case(self.rules, [{5: 0, 1: 0}, {2: 0, 3: 0, 5: 0}], [1])

    def test_closed_choices(self):
        run = [{1: 4}, {2: 5}, {9: 1}]
        for choice in ([], [0], [2], [1, 0], [2, 0], [0, 1, 2]):
            self.refuse(ClosedChoice, {}, breaking_case, self.rules, run, choice)
        self.refuse(ClosedChoice, {}, breaking_case, self.rules, [], [])

    def test_the_run_need_not_be_lawful(self):
        self.check_case(self.rules, [{1: 4}, {2: 4}, {3: 1}], [1])

    def test_random_runs(self):
        chance = random.Random(27)
        opened = 0
        for _ in range(1000):
            rules, run = random_rulebook(chance), random_run(chance, chance.randint(0, 9))
            choice = random_choice(chance, run)
            if open_place(rules, run, choice) is None:
                self.refuse(ClosedChoice, {}, breaking_case, rules, run, choice)
            else:
                opened += 1
                self.check_case(rules, run, choice)
        self.assertGreater(opened, 100)

    def test_forty_deeds_of_ten_places(self):
        rules = RuleBook([("wide", Apart(list(range(12))))])
        run = [{(place + at) % 12: 1 for at in range(10)} for place in range(40)]
        self.check_case(rules, run, [39, 5])


if __name__ == "__main__":
    unittest.main()
