"""Points 2, 3, 71 and 72: papers about forks."""

import random
import unittest

from forkedshelves.answers import Answers
from forkedshelves.clashes import clash_pairs, inherited_pairs
from forkedshelves.errors import AnswerRing, TooWide, Unanswered, Unlawful
from forkedshelves.fewest import fewest_given_up
from forkedshelves.forkpapers import accepts_fewest, accepts_settled, fewest_paper, settled_paper
from forkedshelves.forks import Fork
from forkedshelves.pairs import Apart, Needs
from forkedshelves.rulebook import RuleBook
from forkedshelves.settling import settle
from forkedshelves.sums import Total
from tests.forkcases import model_clashes, model_parts, random_fork_pair, random_graph_forks
from tests.helpers import WatchedCase
from tests.papercases import spoilt_row
from tests.settlecases import (clashing_changes, has_ring, model_changes, model_strikes, random_answers,
                               random_settling)


def model_accepts_fewest(rules, base, books, forks, paper):
    """The conditions of point 71, one by one."""
    word, *given, rows = paper
    kept = []
    for fork, places, book in zip(forks, given, books):
        if list(places) != sorted(set(places)) or not set(places) <= set(fork.places):
            return False
        kept.append(tuple(place for place in fork.places if place not in places))
        if kept[-1] not in model_parts(rules, base, book):
            return False
    clashes = model_clashes(rules, base, *books)
    if any(x in kept[0] and y in kept[1] for x, y in clashes) or len(rows) != len(given[0]) + len(given[1]):
        return False
    for ways, fork in zip(([xs for xs, _ in rows], [ys for _, ys in rows]), forks):
        if not all(ways) or len({way[0] for way in ways}) < len(ways):
            return False
        if not all(set(way) <= set(fork.places) for way in ways):
            return False
        if not all(pair in fork.needs() for way in ways for pair in zip(way, way[1:])):
            return False
    return word == "fewest" and all((xs[-1], ys[-1]) in clashes for xs, ys in rows)


def model_accepts_settled(rules, base, books, answers, paper):
    """The conditions of point 72, one by one."""
    if [row[:2] for row in paper] != model_changes(base, books):
        return False
    strikes = model_strikes(rules, base, books, answers)
    kept = [row[:2] for row in paper if row[2] is None]
    if not all(row[2] is None or row[2] in kept and (row[2], row[:2]) in strikes for row in paper):
        return False
    clashes = clashing_changes(rules, base, books)
    return not any((one, other) in strikes or (one, other) in clashes for one in kept for other in kept)


class FewestPaperTest(WatchedCase):
    def setUp(self):
        self.rules = RuleBook([("unlike", Apart([1, 2])), ("link", Needs([(3, 1), (4, 3), (6, 5)]))])
        self.first = Fork(self.rules, {}, {1: 4, 3: 1, 5: 1, 6: 1, 9: 1})
        self.second = Fork(self.rules, {}, {2: 4, 5: 2, 6: 1})
        # The second fork gives up all: 2 clashes with 1, and 5 with 5; and 6 needs 5.
        self.rows = (((1,), (2,)), ((5,), (5,)), ((6, 5), (6, 5)))

    def take(self, *papers):
        for paper in papers:
            self.check(True, accepts_fewest, self.first, self.second, paper)

    def reject(self, *papers):
        for paper in papers:
            self.check(False, accepts_fewest, self.first, self.second, paper)

    def test_the_paper_of_the_program(self):
        paper = self.call(fewest_paper, self.first, self.second)
        self.assertEqual(paper[:3], ("fewest", (), (2, 5, 6)))
        self.assertIs(type(paper[3]), tuple)
        self.assertEqual(len(paper[3]), 3)
        self.take(paper, ("fewest", (), (2, 5, 6), self.rows))

    def test_forks_without_clashes(self):
        self.second = Fork(self.rules, {}, {2: 5})
        self.check(("fewest", (), (), ()), fewest_paper, self.first, self.second)
        self.take(("fewest", (), (), ()))
        self.reject(("fewest", (), (2,), (((1,), (2,)),)), ("fewest", (), (), (((1,), (2,)),)))

    def test_other_givings_and_other_rows(self):
        self.take(("fewest", (5, 6), (2,), self.rows), ("fewest", (), (2, 5, 6), self.rows[::-1]))
        self.take(("fewest", (), (2, 5, 6), (((3, 1), (2,)), ((6, 5), (5,)), ((5,), (6, 5)))))
        self.reject(("fewest", (1, 3), (5, 6), self.rows), ("fewest", (1, 3, 5, 6), (), self.rows))

    def test_given_lists_that_are_none(self):
        for given in [((), (2, 5)), ((), (5, 2, 6)), ((), (2, 2, 5)), ((), (2, 5, 5)), ((), (2, 5, 6, 7)), ((9,), (2, 5)),
                      ((), (2, 5, 9)), ((), (-2, 5, 6)), ((1,), (5, 6)), ((5,), (2, 6)), ((2,), (5, 6)), ((), ()),
                      ((6, 5), (2,)), ((5, 6, 6), ()), ((), (2, 6, 5)), ((5, 300), (2,)), ((), (5, 6))]:
            self.reject(("fewest", *given, self.rows))

    def test_rows_too_many_or_too_few(self):
        for rows in [(), self.rows[:2], self.rows[1:], (*self.rows, ((9,), (9,))), (*self.rows, self.rows[0])]:
            self.reject(("fewest", (), (2, 5, 6), rows))

    def test_rows_that_are_spoilt(self):
        for row in [((), (2,)), ((1,), ()), ((), ()), ((1, 1), (2,)), ((1, 3), (2,)), ((9,), (2,)), ((1,), (6, 5)),
                    ((1,), (5,)), ((5,), (2,)), ((6, 5), (2,)), ((3,), (2,)), ((3, 3, 1), (2,)), ((1,), (2, 2)),
                    ((-1,), (2,)), ((1,), (300,)), ((300, 1), (2,)), ((1, 300), (2,)), ((4, 3, 1), (2,))]:
            self.reject(("fewest", (), (2, 5, 6), (row, *self.rows[1:])))
        for row in [((5,), (6, 5)), ((6, 5), (5,)), ((6,), (6,)), ((6, 5), (6,)), ((6, 5, 6), (6, 5))]:
            self.reject(("fewest", (), (2, 5, 6), (*self.rows[:2], row)))

    def test_a_row_may_go_around(self):
        rules = RuleBook([("ring", Needs([(1, 2), (2, 1)]))])
        self.first, self.second = Fork(rules, {}, {1: 1, 2: 1}), Fork(rules, {}, {1: 2, 2: 1})
        self.assertEqual(clash_pairs(self.first, self.second), [(1, 1)])
        ring = (2, 1) * 100
        self.take(("fewest", (), (1, 2), (((1,), (2, 1)), (ring, (1,)))))
        self.reject(("fewest", (), (1, 2), (((1,), (2, 1)), ((*ring, 1), (1,)))))

    def test_another_word(self):
        self.reject(("fewer", (), (2, 5, 6), self.rows), ("", (), (2, 5, 6), self.rows))

    def test_a_paper_for_other_forks(self):
        paper = fewest_paper(self.first, self.second)
        self.first, self.second = self.second, self.first
        self.reject(paper)
        self.first = Fork(self.rules, {}, {1: 4})
        self.reject(paper)

    def random_cases(self, seed, many):
        chance = random.Random(seed)
        for number in range(many):
            yield chance, random_fork_pair(chance) if number % 2 else random_graph_forks(chance)

    def test_random_forks(self):
        rows = 0
        for _, (rules, base, *books, first, second) in self.random_cases(71, 300):
            given_first, given_second, chosen = fewest_given_up(first, second)
            paper = self.call(fewest_paper, first, second)
            self.check_new(fewest_paper, first, second)
            self.assertEqual(paper[:3], ("fewest", tuple(given_first), tuple(given_second)))
            self.assertTrue(all(type(xs) is tuple and type(ys) is tuple for xs, ys in paper[3]))
            pairs = [(xs[0], ys[0]) for xs, ys in paper[3]]
            self.assertLessEqual(set(pairs), set(inherited_pairs(first, second)))
            self.assertEqual(len(pairs), len(chosen))
            rows += len(pairs)
            self.assertTrue(accepts_fewest(first, second, paper))
            self.assertTrue(model_accepts_fewest(rules, base, books, (first, second), paper))
        self.assertGreater(rows, 150)

    def spoilt(self, chance, paper):
        word, *given, rows = paper
        number = chance.choice([*range(-1, 6), 10, 11, 12, 300])
        kind = chance.randrange(4)
        if kind < 2 or not rows:
            given[kind % 2] = spoilt_row(chance, given[kind % 2], number)
        elif kind == 2:
            rows = spoilt_row(chance, rows, ((number,), (number,)))
        else:
            at, side = chance.randrange(len(rows)), chance.randrange(2)
            row = list(rows[at])
            row[side] = spoilt_row(chance, row[side], number)
            rows = (*rows[:at], tuple(row), *rows[at + 1:])
        return word, *given, rows

    def test_spoilt_papers(self):
        """Against the words of the point."""
        seen = [0, 0]
        for chance, (rules, base, *books, first, second) in self.random_cases(711, 300):
            paper = fewest_paper(first, second)
            for _ in range(15):
                wrong = self.spoilt(chance, paper)
                expected = model_accepts_fewest(rules, base, books, (first, second), wrong)
                self.assertIs(accepts_fewest(first, second, wrong), expected, wrong)
                seen[expected] += 1
        self.assertGreater(min(seen), 100)

    def test_long_rows(self):
        every = [(x, y) for x in range(30) for y in range(30) if x != y]
        rules = RuleBook([("link", Needs(every))])
        first = Fork(rules, {}, {place: 1 for place in range(30)})
        second = Fork(rules, {}, {place: 2 if place == 29 else 1 for place in range(30)})
        paper = fewest_paper(first, second)
        self.assertEqual([len(paper[3]), accepts_fewest(first, second, paper)], [30, True])
        ways = [tuple((start + step) % 29 for step in range(299)) + (29,) for start in range(29)]
        rows = tuple(zip([*ways, (29,)], [*ways, (29,)]))
        self.assertTrue(accepts_fewest(first, second, ("fewest", (), tuple(range(30)), rows)))
        self.assertFalse(accepts_fewest(first, second, ("fewest", (), tuple(range(30)), rows[:29] + (((29, 29), (29,)),))))


class SettledPaperTest(WatchedCase):
    def setUp(self):
        self.rules = RuleBook([("unlike", Apart([1, 2])), ("link", Needs([(3, 1)]))])
        self.base = {8: 8}
        self.books = [{1: 4, 3: 1, 8: 8}, {2: 4, 6: 6}]
        self.answers = Answers()
        self.answers.prefer((2, 4), (1, 4))
        self.paper = ((0, 1, (1, 2)), (0, 3, (1, 2)), (1, 2, None), (1, 6, None), (1, 8, None))

    def args(self):
        return self.rules, self.base, self.books, self.answers

    def take(self, *papers):
        for paper in papers:
            self.check(True, accepts_settled, *self.args(), paper)

    def reject(self, *papers):
        for paper in papers:
            self.check(False, accepts_settled, *self.args(), paper)

    def test_the_paper_of_the_program(self):
        self.check(self.paper, settled_paper, *self.args())
        self.take(self.paper)
        self.assertEqual(list(self.answers), [((2, 4), (1, 4))])

    def test_forks_without_changes(self):
        self.books = [{8: 8}, {8: 8}]
        self.check((), settled_paper, *self.args())
        self.take(())
        self.reject(((0, 8, None),))

    def test_rows_too_many_too_few_or_in_another_order(self):
        paper = self.paper
        self.reject((), paper[1:], paper[:-1], paper[::-1], (*paper, paper[-1]), (paper[0], *paper),
                    (*paper, (1, 9, None)), (*paper, (2, 1, None)), ((-1, 1, None), *paper), (paper[1], paper[0], *paper[2:]))

    def test_changes_that_do_not_exist(self):
        paper = self.paper
        for row in [(0, 2, (1, 2)), (1, 1, (1, 2)), (0, -1, (1, 2)), (-1, 1, (1, 2)), (300, 1, (1, 2))]:
            self.reject((row, *paper[1:]))

    def test_rows_told_otherwise(self):
        paper = self.paper
        for at, striker in [(0, None), (1, None), (0, (1, 6)), (0, (1, 8)), (0, (0, 3)), (0, (0, 1)), (0, (1, 1)),
                            (0, (2, 2)), (0, (-1, 2)), (0, (1, -2)), (0, (300, 300)), (1, (0, 1)), (2, (0, 1)),
                            (2, (1, 2)), (3, (1, 2)), (3, (0, 1)), (4, (1, 6))]:
            self.reject((*paper[:at], (*paper[at][:2], striker), *paper[at + 1:]))

    def test_kept_changes_that_clash_without_an_answer(self):
        self.answers.forget((2, 4), (1, 4))
        self.reject(self.paper, tuple((*row[:2], None) for row in self.paper))
        self.books = [{1: 4, 8: 8}, {2: 5, 8: 8}]
        self.take(((0, 1, None), (1, 2, None)))

    def test_a_striker_that_is_not_kept(self):
        self.books = [{5: 1, 8: 8}, {5: 2, 8: 8}, {5: 3, 8: 8}]
        for winner, loser in [(1, 2), (2, 3), (1, 3)]:
            self.answers.prefer((5, winner), (5, loser))
        self.take(((0, 5, None), (1, 5, (0, 5)), (2, 5, (0, 5))))
        self.reject(((0, 5, None), (1, 5, (0, 5)), (2, 5, (1, 5))), ((0, 5, None), (1, 5, (0, 5)), (2, 5, None)),
                    ((0, 5, (1, 5)), (1, 5, None), (2, 5, (1, 5))))

    def test_any_of_several_strikers(self):
        self.books = [{2: 4, 6: 6, 8: 8}, {1: 4, 8: 8}, {2: 4, 8: 8}]
        self.take(((0, 2, None), (0, 6, None), (1, 1, (0, 2)), (2, 2, None)),
                  ((0, 2, None), (0, 6, None), (1, 1, (2, 2)), (2, 2, None)))
        found = settled_paper(*self.args())
        self.assertIn(found[2], [(1, 1, (0, 2)), (1, 1, (2, 2))])

    def test_errors_of_settle(self):
        self.answers.forget((2, 4), (1, 4))
        self.refuse(Unanswered, {"first": (1, 4), "second": (2, 4)}, settled_paper, *self.args())
        self.answers.prefer((1, 4), (2, 4))
        self.books = [{8: 1}, {8: 2}, {8: 3}]
        for winner, loser in [(1, 2), (2, 3), (3, 1)]:
            self.answers.prefer((8, winner), (8, loser))
        self.refuse(AnswerRing, {}, settled_paper, *self.args())
        # A paper that keeps one change of a ring and tells what strikes the others is none: one of them is not struck.
        self.reject(((0, 8, None), (1, 8, (0, 8)), (2, 8, (0, 8))), ((0, 8, None), (1, 8, (0, 8)), (2, 8, None)))

    def test_errors_of_the_forks(self):
        papers = [self.paper, (), ((0, 1, None),)]
        wide = RuleBook([("total", Total([1, 2, 3], 5))])
        unlike = ((1, 4), (2, 4))
        for error, fields, args in [
                (TooWide, {"key": "total"}, (wide, {}, [{1: 9}])),
                (Unlawful, {"key": "unlike", "bar": unlike}, (self.rules, {1: 4, 2: 4}, [{3: 1}])),
                (Unlawful, {"key": "link", "bar": ((1, 0), (3, 1))}, (self.rules, {}, [{5: 1}, {3: 1}, {1: 4, 2: 4}]))]:
            self.refuse(error, fields, settled_paper, *args, self.answers)
            for paper in papers:
                self.refuse(error, fields, accepts_settled, *args, self.answers, paper)

    def test_unanswered_clashes_and_rings_raise_nothing_in_reading(self):
        self.books = [{8: 1}, {8: 2}]
        self.reject(((0, 8, None), (1, 8, None)), ((0, 8, None), (1, 8, (0, 8))))

    def test_random_forks(self):
        """Against the words of the point."""
        chance = random.Random(72)
        seen = [0, 0]
        for number in range(300):
            rules, base, books = random_settling(chance)
            answers = random_answers(chance, rules, base, books, chance.choice([1, 1, 0.7]))
            try:
                kept = settle(rules, base, books, answers)
                paper = self.call(settled_paper, rules, base, books, answers)
            except (Unanswered, AnswerRing):
                paper = tuple((*change, None) for change in model_changes(base, books))
            else:
                self.assertTrue(model_accepts_settled(rules, base, books, answers, paper))
                self.assertTrue(accepts_settled(rules, base, books, answers, paper))
                self.assertEqual([row[:2] for row in paper if row[2] is None],
                                 [(at, place) for at, places in enumerate(kept) for place in places])
                self.check_new(settled_paper, rules, base, books, answers)
            for _ in range(12):
                wrong = self.spoilt(chance, self.spoilt(chance, paper) if chance.random() < 0.6 else paper)
                expected = model_accepts_settled(rules, base, books, answers, wrong)
                self.assertIs(accepts_settled(rules, base, books, answers, wrong), expected, wrong)
                seen[expected] += 1
                if expected and not has_ring(model_strikes(rules, base, books, answers)):
                    sound = [row[:2] for row in wrong if row[2] is None]
                    self.assertEqual(self.kept_or_none(rules, base, books, answers) or sound, sound)
        self.assertGreater(min(seen), 30)

    def kept_or_none(self, rules, base, books, answers):
        try:
            kept = settle(rules, base, books, answers)
        except Unanswered:
            return None
        return [(at, place) for at, places in enumerate(kept) for place in places]

    def spoilt(self, chance, paper):
        changes = [row[:2] for row in paper] or [(0, 0)]
        striker = chance.choice([None, None, *changes, *changes, (chance.randint(-1, 4), chance.randint(-1, 5))])
        if paper and chance.random() < 0.8:
            at = chance.randrange(len(paper))
            return (*paper[:at], (*paper[at][:2], striker), *paper[at + 1:])
        return spoilt_row(chance, paper, (chance.randint(-1, 2), chance.randint(-1, 5), striker))


if __name__ == "__main__":
    unittest.main()
