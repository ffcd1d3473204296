"""Points 2, 3 and 61: kept answers."""

import random
import unittest

from forkedshelves.answers import Answers
from forkedshelves.errors import Contradiction
from tests.helpers import WatchedCase

A, B, C = (1, 4), (2, 4), (2, 0)


class AnswersTest(WatchedCase):
    def setUp(self):
        self.answers = Answers()

    def refuse_prefer(self, winner, loser):
        before = list(self.answers)
        self.refuse(Contradiction, {"winner": winner, "loser": loser}, self.answers.prefer, winner, loser)
        self.assertEqual(list(self.answers), before)

    def test_nothing_is_recorded_at_first(self):
        self.assertEqual(list(self.answers), [])
        self.assertIs(self.answers.prefers(A, B), False)
        self.assertIs(self.answers.forget(A, B), False)

    def test_prefer(self):
        self.assertIsNone(self.answers.prefer(A, B))
        self.assertIs(self.answers.prefers(A, B), True)
        self.assertIs(self.answers.prefers(B, A), False)
        self.assertIs(self.answers.prefers(A, C), False)

    def test_equal_marks(self):
        self.refuse_prefer(A, A)
        self.answers.prefer(A, B)
        self.refuse_prefer(B, B)

    def test_the_opposite_of_a_recorded_answer(self):
        self.answers.prefer(A, B)
        self.refuse_prefer(B, A)
        self.assertIs(self.answers.prefers(A, B), True)
        self.assertIs(self.answers.prefers(B, A), False)

    def test_marks_of_one_place(self):
        self.answers.prefer(C, B)
        self.refuse_prefer(B, C)

    def test_the_same_answer_twice(self):
        for _ in range(2):
            self.assertIsNone(self.answers.prefer(A, B))
            self.assertEqual(list(self.answers), [(A, B)])
        self.assertIs(self.answers.forget(A, B), True)
        self.assertEqual(list(self.answers), [])

    def test_rings_of_answers_are_no_contradiction(self):
        for winner, loser in [(A, B), (B, C), (C, A)]:
            self.answers.prefer(winner, loser)
        self.assertEqual(list(self.answers), [(A, B), (C, A), (B, C)])

    def test_forget(self):
        self.answers.prefer(A, B)
        self.answers.prefer(A, C)
        self.assertIs(self.answers.forget(B, A), False)
        self.assertIs(self.answers.forget(B, C), False)
        self.assertEqual(list(self.answers), [(A, C), (A, B)])
        self.assertIs(self.answers.forget(A, B), True)
        self.assertEqual(list(self.answers), [(A, C)])
        self.assertIs(self.answers.forget(A, B), False)
        self.answers.prefer(B, A)
        self.assertEqual(list(self.answers), [(A, C), (B, A)])

    def test_iterating_in_ascending_order(self):
        pairs = [((9, 1), (1, 9)), ((1, 9), (9, 2)), ((1, 10), (0, 0)), ((1, 9), (3, 5)), ((10, 0), (1, 1))]
        for winner, loser in pairs:
            self.answers.prefer(winner, loser)
        self.assertEqual(list(self.answers), sorted(pairs))
        self.assertEqual([pair for pair in self.answers], sorted(pairs))
        self.assertEqual(list(self.answers), sorted(pairs))

    def test_what_iterating_gives_may_be_changed(self):
        self.answers.prefer(A, B)
        found = list(self.answers)
        found.clear()
        self.assertEqual(list(self.answers), [(A, B)])

    def test_answers_may_be_forgotten_while_they_are_gone_over(self):
        for value in range(5):
            self.answers.prefer((1, value), (2, value))
        for winner, loser in self.answers:
            self.assertIs(self.answers.forget(winner, loser), True)
        self.assertEqual(list(self.answers), [])

    def test_a_clone_goes_its_own_way(self):
        self.answers.prefer(A, B)
        other = self.answers.clone()
        self.assertIs(type(other), Answers)
        self.assertEqual(list(other), [(A, B)])
        other.prefer(A, C)
        other.forget(A, B)
        self.answers.prefer(B, C)
        self.assertEqual([list(self.answers), list(other)], [[(A, B), (B, C)], [(A, C)]])
        self.assertEqual([list(self.answers.clone()), list(Answers().clone())], [[(A, B), (B, C)], []])

    def test_objects_do_not_share_answers(self):
        self.answers.prefer(A, B)
        self.assertEqual(list(Answers()), [])

    def test_random_answers(self):
        chance = random.Random(61)
        marks = [(place, value) for place in range(3) for value in range(2)]
        recorded = set()
        for _ in range(600):
            winner, loser = chance.choice(marks), chance.choice(marks)
            if chance.random() < 0.4:
                self.assertIs(self.answers.forget(winner, loser), (winner, loser) in recorded)
                recorded.discard((winner, loser))
            elif winner == loser or (loser, winner) in recorded:
                self.refuse_prefer(winner, loser)
            else:
                self.answers.prefer(winner, loser)
                recorded.add((winner, loser))
            self.assertEqual(list(self.answers), sorted(recorded))
            for first in marks:
                self.assertIs(self.answers.prefers(first, loser), (first, loser) in recorded)

    def test_two_hundred_answers_and_some_more(self):
        for value in range(250):
            self.answers.prefer((value % 7, value), (200, value))
        self.assertEqual(len(list(self.answers)), 250)
        self.assertEqual(list(self.answers.clone()), sorted(((value % 7, value), (200, value)) for value in range(250)))


if __name__ == "__main__":
    unittest.main()
