"""Points 2, 3, 62, 63 and 64: which changes stay by kept answers."""

import random
import unittest
from itertools import permutations

from forkedshelves.answers import Answers
from forkedshelves.clashes import inherited_pairs
from forkedshelves.errors import AnswerRing, TooWide, Unanswered, Unlawful
from forkedshelves.fewest import fewest_given_up
from forkedshelves.forks import Fork
from forkedshelves.listed import Ban
from forkedshelves.pairs import Apart, Needs
from forkedshelves.rulebook import RuleBook
from forkedshelves.settling import settle, settled_book
from forkedshelves.sums import Total
from tests.forkcases import model_changed, random_fork_pair
from tests.helpers import WatchedCase
from tests.settlecases import (by_forks, clashing_changes, has_ring, model_changes, model_kept_sets, model_mark,
                               model_strikes, model_unanswered, random_answers, random_settling, rings_of,
                               sparse_contest)


def answers_of(*pairs):
    answers = Answers()
    for winner, loser in pairs:
        answers.prefer(winner, loser)
    return answers


class SettlingCase(WatchedCase):
    def setUp(self):
        self.rules = RuleBook([("unlike", Apart([1, 2, 3])), ("link", Needs([(8, 1), (9, 8)]))])

    def check_settled(self, base, books, answers, kept, book):
        recorded = list(answers)
        self.check(kept, settle, self.rules, base, books, answers)
        self.check(book, settled_book, self.rules, base, books, answers)
        self.assertEqual(list(answers), recorded)

    def refuse_settling(self, error, fields, rules, base, books, answers):
        recorded = list(answers)
        for function in (settle, settled_book):
            caught = self.refuse(error, fields, function, rules, base, books, answers)
            self.assertEqual(list(answers), recorded)
        return caught


class SettleTest(SettlingCase):
    def test_the_example_of_the_document(self):
        self.rules = RuleBook([("unlike", Apart([1, 2, 3]))])
        answers = answers_of(((1, 4), (2, 4)), ((2, 4), (3, 4)), ((1, 4), (3, 4)))
        self.check_settled({}, [{3: 4}, {2: 4}, {1: 4, 7: 7}], answers, [[], [], [1, 7]], {1: 4, 7: 7})

    def test_one_fork(self):
        self.check_settled({5: 5, 1: 1}, [{1: 4, 8: 1}], Answers(), [[1, 5, 8]], {1: 4, 8: 1})

    def test_forks_without_changes(self):
        self.check_settled({5: 5}, [{5: 5}], Answers(), [[]], {5: 5})
        self.check_settled({5: 5}, [{5: 5}, {1: 1}, {5: 5}], Answers(), [[], [1, 5], []], {1: 1})
        self.check_settled({}, [{}, {}], Answers(), [[], []], {})

    def test_equal_forks(self):
        self.check_settled({5: 5}, [{5: 6, 1: 4}, {5: 6, 1: 4}], Answers(), [[1, 5], [1, 5]], {5: 6, 1: 4})

    def test_changes_to_0(self):
        answers = answers_of(((5, 0), (5, 7)))
        self.check_settled({5: 5, 6: 6}, [{6: 6}, {5: 7}], answers, [[5], [6]], {})
        answers = answers_of(((5, 7), (5, 0)))
        self.check_settled({5: 5, 6: 6}, [{6: 6}, {5: 7}], answers, [[], [5, 6]], {5: 7})

    def test_a_change_falls_with_what_it_needs(self):
        answers = answers_of(((2, 4), (1, 4)))
        self.check_settled({}, [{1: 4, 8: 1, 9: 1, 7: 1}, {2: 4}], answers, [[7], [2]], {2: 4, 7: 1})
        self.check_settled({}, [{2: 4}, {1: 4, 8: 1, 9: 1, 7: 1}], answers, [[2], [7]], {2: 4, 7: 1})

    def test_a_struck_change_does_not_strike(self):
        # The second fork loses against the first one, so the third one keeps what the second one would have struck.
        answers = answers_of(((1, 4), (2, 4)), ((2, 6), (3, 6)), ((2, 4), (2, 6)))
        self.check_settled({}, [{1: 4}, {2: 4}, {2: 6}, {3: 6}], answers, [[1], [], [2], []], {1: 4, 2: 6})

    def test_merging_one_after_the_other_may_end_differently(self):
        answers = answers_of(((5, 1), (5, 2)), ((5, 2), (5, 3)), ((5, 1), (5, 3)))
        self.check_settled({}, [{5: 3, 6: 3}, {5: 2}, {5: 1}], answers, [[6], [], [5]], {5: 1, 6: 3})

    def test_answers_about_marks_that_no_fork_has(self):
        answers = answers_of(((5, 1), (5, 2)), ((5, 9), (5, 1)), ((90, 1), (91, 1)), ((6, 1), (7, 1)))
        self.check_settled({}, [{5: 1, 6: 1}, {5: 2, 7: 1}], answers, [[5, 6], [7]], {5: 1, 6: 1, 7: 1})

    def test_answers_that_always_prefer_the_first_fork(self):
        """Point 64: the first fork keeps all, and the second one what has no inherited pair."""
        chance = random.Random(64)
        given = 0
        for _ in range(250):
            rules, base, one, other, *forks = random_fork_pair(chance)
            answers = Answers()
            clashes = clashing_changes(rules, base, [one, other])
            for pair in clashes:
                answers.prefer(*[model_mark([one, other], change) for change in pair])
            struck = {y for _, y in inherited_pairs(*forks)}
            kept = [place for place in model_changed(base, other) if place not in struck]
            given += len(struck)
            self.check([model_changed(base, one), kept], settle, rules, base, [one, other], answers)
        self.assertGreater(given, 100)

    def test_random_forks(self):
        """Against all sets of changes."""
        chance = random.Random(63)
        seen = {"kept": 0, "given": 0, "ring": 0}
        for _ in range(400):
            rules, base, books = random_settling(chance)
            answers = random_answers(chance, rules, base, books)
            strikes = model_strikes(rules, base, books, answers)
            if has_ring(strikes):
                seen["ring"] += 1
                continue
            changes = model_changes(base, books)
            sets = model_kept_sets(strikes, changes)
            self.assertEqual(len(sets), 1)
            kept = by_forks(sets[0], len(books))
            self.check(kept, settle, rules, base, books, answers)
            seen["kept"] += len(sets[0])
            seen["given"] += len(changes) - len(sets[0])
            self.check_book(rules, base, books, answers, kept)
            self.check_order(chance, rules, base, books, answers, kept)
        self.assertGreater(min(seen.values()), 20)

    def check_book(self, rules, base, books, answers, kept):
        """The kept changes are parts, no two give a place different values, and the book with them is lawful."""
        expected = dict(base)
        for book, places in zip(books, kept):
            self.assertEqual(list(Fork(rules, base, book).part(places).places), places)
            expected.update({place: book.get(place, 0) for place in places})
        for book, places in zip(books, kept):
            self.assertTrue(all(expected[place] == book.get(place, 0) for place in places))
        expected = {place: value for place, value in expected.items() if value}
        self.assertTrue(rules.is_lawful(expected))
        self.check(expected, settled_book, rules, base, books, answers)

    def check_order(self, chance, rules, base, books, answers, kept):
        """In another order each fork keeps the same, and two forks keep no more than the fewest given up leave."""
        order = chance.sample(range(len(books)), len(books))
        self.assertEqual(settle(rules, base, [books[at] for at in order], answers), [kept[at] for at in order])
        if len(books) == 2:
            forks = [Fork(rules, base, book) for book in books]
            least = len(fewest_given_up(*forks)[2])
            self.assertLessEqual(sum(map(len, kept)), sum(len(fork.places) for fork in forks) - least)


class RefusedTest(SettlingCase):
    def test_errors_of_the_forks_come_first(self):
        unlike = ((1, 4), (2, 4))
        wide = RuleBook([("total", Total([1, 2, 3], 5)), ("unlike", Apart([1, 2]))])
        self.refuse_settling(TooWide, {"key": "total"}, wide, {1: 4, 2: 4}, [{1: 4, 2: 4}], Answers())
        self.refuse_settling(Unlawful, {"key": "unlike", "bar": unlike}, self.rules, {1: 4, 2: 4}, [{8: 1}], Answers())
        self.refuse_settling(Unlawful, {"key": "unlike", "bar": unlike}, self.rules, {}, [{1: 4, 2: 4}], Answers())
        # The second and the third fork are unlawful; the first two books clash without an answer.
        self.refuse_settling(Unlawful, {"key": "link", "bar": ((1, 0), (8, 1))}, self.rules, {},
                             [{5: 1}, {5: 2}, {8: 1}, {1: 4, 2: 4}], Answers())

    def test_unanswered(self):
        self.refuse_settling(Unanswered, {"first": (5, 1), "second": (5, 2)}, self.rules, {}, [{5: 1}, {5: 2}],
                             Answers())
        self.refuse_settling(Unanswered, {"first": (5, 2), "second": (5, 1)}, self.rules, {}, [{5: 2}, {5: 1}],
                             answers_of(((5, 3), (5, 1))))

    def test_the_first_clash_by_positions_then_by_places(self):
        books = [{7: 1, 1: 4}, {9: 0, 2: 4, 7: 2}, {7: 3, 2: 4}]
        books = [{place: value for place, value in book.items() if value} for book in books]
        self.refuse_settling(Unanswered, {"first": (1, 4), "second": (2, 4)}, self.rules, {}, books, Answers())
        answers = answers_of(((2, 4), (1, 4)))
        self.refuse_settling(Unanswered, {"first": (7, 1), "second": (7, 2)}, self.rules, {}, books, answers)
        answers.prefer((7, 1), (7, 2))
        self.refuse_settling(Unanswered, {"first": (7, 1), "second": (7, 3)}, self.rules, {}, books, answers)
        answers.prefer((7, 3), (7, 1))
        self.refuse_settling(Unanswered, {"first": (7, 2), "second": (7, 3)}, self.rules, {}, books, answers)

    def test_unanswered_comes_before_a_ring(self):
        books = [{5: 1}, {5: 2}, {5: 3, 6: 1}, {6: 2}]
        answers = answers_of(((5, 1), (5, 2)), ((5, 2), (5, 3)), ((5, 3), (5, 1)))
        self.refuse_settling(Unanswered, {"first": (6, 1), "second": (6, 2)}, self.rules, {}, books, answers)
        answers.prefer((6, 2), (6, 1))
        self.refuse_settling(AnswerRing, {}, self.rules, {}, books, answers)

    def test_a_ring_of_three(self):
        answers = answers_of(((5, 1), (5, 2)), ((5, 2), (5, 3)), ((5, 3), (5, 1)))
        caught = self.refuse_settling(AnswerRing, {}, self.rules, {}, [{5: 1}, {5: 2}, {5: 3}], answers)
        self.assertIs(type(caught.ring), list)
        self.assertIn(caught.ring, [[(0, 5), (1, 5), (2, 5)], [(1, 5), (2, 5), (0, 5)], [(2, 5), (0, 5), (1, 5)]])

    def test_a_ring_of_two(self):
        # What places 1 and 2 need clashes crosswise, with opposite answers.
        rules = RuleBook([("needs", Needs([(1, 3), (2, 4), (3, 1), (4, 2)])),
                          ("ban", Ban([[(1, 1), (2, 1)], [(3, 1), (4, 1)]]))])
        answers = answers_of(((1, 1), (2, 1)), ((4, 1), (3, 1)))
        caught = self.refuse_settling(AnswerRing, {}, rules, {}, [{1: 1, 3: 1}, {2: 1, 4: 1}], answers)
        self.assertEqual(len(caught.ring), 2)
        self.assertEqual(sorted(at for at, _ in caught.ring), [0, 1])

    def test_a_ring_of_four_and_a_shorter_one(self):
        rules = RuleBook([("ban", Ban([[(place, 1), (place % 4 + 1, 1)] for place in range(1, 5)]))])
        answers = answers_of(*[((place, 1), (place % 4 + 1, 1)) for place in range(1, 5)])
        books = [{place: 1} for place in (3, 1, 4, 2)]
        caught = self.refuse_settling(AnswerRing, {}, rules, {}, books, answers)
        start = caught.ring.index((1, 1))
        self.assertEqual(caught.ring[start:] + caught.ring[:start], [(1, 1), (3, 2), (0, 3), (2, 4)])
        for value in range(1, 4):
            answers.prefer((9, value), (9, value % 3 + 1))
        books = [{**book, 9: 1 + at % 3} for at, book in enumerate(books)]
        caught = self.refuse_settling(AnswerRing, {}, rules, {}, books, answers)
        self.assertEqual([len(caught.ring), {place for _, place in caught.ring}], [3, {9}])

    def test_a_ring_with_detours(self):
        # The ring 1, 2, 3, and for each of its steps a way around by two more places: 4 and 5, 6 and 7, 8 and 9.
        steps = [(1, 2), (2, 3), (3, 1), (1, 4), (4, 5), (5, 3), (2, 6), (6, 7), (7, 1), (3, 8), (8, 9), (9, 2)]
        rules = RuleBook([("ban", Ban([[(x, 1), (y, 1)] for x, y in steps]))])
        answers = answers_of(*[((x, 1), (y, 1)) for x, y in steps])
        books = [{place: 1 for place in places} for places in ((1, 5, 9), (2, 4, 7, 8), (3, 6))]
        for order in permutations(books):
            caught = self.refuse_settling(AnswerRing, {}, rules, {}, list(order), answers)
            self.assertEqual([len(caught.ring), sorted(place for _, place in caught.ring)], [3, [1, 2, 3]])

    def test_a_ring_that_is_struck_from_outside_is_a_ring(self):
        answers = answers_of(((5, 1), (5, 2)), ((5, 2), (5, 3)), ((5, 3), (5, 1)))
        books = [{5: 1}, {5: 2}, {5: 3}, {5: 4}]
        for value in (1, 2, 3):
            answers.prefer((5, 4), (5, value))
        self.refuse_settling(AnswerRing, {}, self.rules, {}, books, answers)
        self.assertEqual(settle(self.rules, {}, books[1:], answers), [[], [], [5]])

    def test_what_is_in_the_error_may_be_changed(self):
        answers = answers_of(((5, 1), (5, 2)), ((5, 2), (5, 3)), ((5, 3), (5, 1)))
        for _ in range(2):
            caught = self.refuse_settling(AnswerRing, {}, self.rules, {}, [{5: 1}, {5: 2}, {5: 3}], answers)
            self.assertEqual(len(caught.ring), 3)
            caught.ring.clear()

    def test_random_clashes_without_answers(self):
        chance = random.Random(631)
        refused = 0
        for _ in range(250):
            rules, base, books = random_settling(chance)
            answers = random_answers(chance, rules, base, books, 0.8)
            expected = model_unanswered(rules, base, books, answers)
            if expected:
                refused += 1
                fields = {"first": expected[0], "second": expected[1]}
                self.refuse_settling(Unanswered, fields, rules, base, books, answers)
        self.assertGreater(refused, 40)

    def test_random_rings(self):
        """Against all rings of a few changes."""
        chance = random.Random(632)
        lengths = {}
        for number in range(1200):
            rules, base, books = sparse_contest(chance) if number % 2 else random_settling(chance, 7)
            answers = random_answers(chance, rules, base, books)
            strikes = model_strikes(rules, base, books, answers)
            if has_ring(strikes):
                least = next(rings for rings in (rings_of(strikes, many) for many in range(1, 8)) if rings)
                caught = self.refuse_settling(AnswerRing, {}, rules, base, books, answers)
                self.assertIn(tuple(caught.ring), least)
                lengths[len(caught.ring)] = lengths.get(len(caught.ring), 0) + 1
        self.assertGreater(min(lengths[length] for length in (2, 3, 4)), 3, lengths)


class LimitsTest(SettlingCase):
    def test_five_forks_of_thirty_changes(self):
        rules = RuleBook([("unlike", Apart(list(range(30)))), ("link", Needs([(x, x + 1) for x in range(29)]))])
        base = {place: 900 + place for place in range(30)}
        books = [{place: 100 * number + place + 1 for place in range(30)} for number in range(1, 6)]
        answers = Answers()
        for place in range(30):
            for first in range(5):
                for second in range(first):
                    answers.prefer((place, books[first][place]), (place, books[second][place]))
        self.assertEqual(settle(rules, base, books, answers), [[], [], [], [], list(range(30))])
        self.assertEqual(settled_book(rules, base, books, answers), books[4])

    def test_a_dense_ring_of_five_forks(self):
        every = [(x, y) for x in range(30) for y in range(30) if x != y]
        rules = RuleBook([("link", Needs(every))])
        books = [{place: number for place in range(30)} for number in range(1, 6)]
        answers = Answers()
        for place in range(30):
            for first in range(5):
                for second in range(first):
                    answers.prefer((place, second + 1), (place, first + 1))
        self.assertEqual(settle(rules, {}, books, answers), [list(range(30)), [], [], [], []])
        answers.forget((29, 1), (29, 5))
        answers.prefer((29, 5), (29, 1))
        caught = self.refuse_settling(AnswerRing, {}, rules, {}, books, answers)
        self.assertEqual(len(caught.ring), 2)


if __name__ == "__main__":
    unittest.main()
