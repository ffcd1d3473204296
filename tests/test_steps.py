"""Points 2, 3 and 76: attempts, and steps that are taken back and done again."""

import random
import unittest
from copy import deepcopy

from forkedshelves.desk import Desk
from forkedshelves.errors import (BadDeed, Contradiction, EmptyDeed, NoFork, NothingToRedo, NothingToUndo, ShelfError,
                                  Unlawful)
from forkedshelves.pairs import Apart
from forkedshelves.rulebook import RuleBook
from tests.deskcases import DeskCase, ModelDesk, call_deed, random_deed, view, whole_view
from tests.helpers import spoil
from tests.histories import some_rules


class StepsCase(DeskCase):
    def setUp(self):
        self.desk = Desk(RuleBook([("unlike", Apart([1, 2]))]), {1: 5})

    def refuse_attempt(self, error, fields, deeds):
        before = deepcopy(whole_view(self.desk))
        self.refuse(error, fields, self.desk.attempt, deeds)
        self.assertEqual(whole_view(self.desk), before)

    def counts(self):
        return [self.desk.steps(), self.desk.undone()]


class AttemptTest(StepsCase):
    def test_results_of_all_deeds(self):
        deeds = [("fork", "side", "main"), ("write", "side", {2: 6}), ("merge", "main", ["side"], {}),
                 ("merge", "main", ["side"], {}), ("merge", "main", ["side"], {9: 9}), ("settle", "side", "main"),
                 ("write", "side", {3: 3}), ("carry", "main", "side", [3]), ("prefer", (1, 4), (2, 4)),
                 ("prefer", (1, 4), (2, 4)), ("forget", (2, 4), (1, 4)), ("forget", (1, 4), (2, 4)), ("drop", "main")]
        results = self.call(self.desk.attempt, deeds)
        self.assertEqual(results, [0, 1, 1, 1, 2, 3, 4, 5, True, False, False, True, None])
        self.assertIs(type(results), list)
        self.assertEqual(self.counts(), [1, 0])
        self.assertEqual(len(self.desk.journal()), 10)
        self.desk.undo()
        self.assertEqual(whole_view(self.desk)[:6], whole_view(Desk(RuleBook([]), {1: 5}))[:6])

    def test_the_same_as_the_deeds_one_by_one(self):
        deeds = [("fork", "side", "main"), ("write", "side", {2: 6}), ("write", "main", {3: 3}),
                 ("merge", "main", ["side", "side"], {})]
        other = Desk(RuleBook([]), {1: 5})
        self.assertEqual(self.desk.attempt(deeds), [call_deed(other, deed) for deed in deeds])
        self.assertEqual(view(self.desk)[:5], view(other)[:5])
        self.assertEqual(self.desk.journal(), other.journal())
        self.assertEqual([self.desk.steps(), other.steps()], [1, 4])

    def test_an_attempt_that_fails_in_the_middle(self):
        self.desk.write("main", {7: 7})
        deeds = [("fork", "side", "main"), ("write", "side", {2: 6}), ("prefer", (1, 4), (2, 4)), ("drop", "main")]
        for deed, error, fields in [
                (("write", "side", {2: 5}), Unlawful, {"key": "unlike", "bar": ((1, 5), (2, 5))}),
                (("write", "side", {}), EmptyDeed, {}), (("drop", "main"), NoFork, {"name": "main"}),
                (("prefer", (2, 4), (1, 4)), Contradiction, {"winner": (2, 4), "loser": (1, 4)}),
                (("undo",), BadDeed, {"position": 4})]:
            self.refuse_attempt(error, fields, [*deeds, deed])
            self.refuse_attempt(error, fields, [*deeds, deed, ("write", "side", {8: 8}), ("fly", "away")])
        self.assertEqual(self.desk.attempt(deeds), [1, 2, True, None])

    def test_another_word_when_it_is_reached(self):
        for word in ("undo", "redo", "attempt", "names", "tip", "", "Fork", "journal", "history"):
            self.refuse_attempt(BadDeed, {"position": 0}, [(word,)])
            self.refuse_attempt(BadDeed, {"position": 1}, [("fork", "side", "main"), (word, "side"), ("drop", "gone")])
            self.refuse_attempt(NoFork, {"name": "gone"}, [("fork", "side", "main"), ("drop", "gone"), (word, "side")])
        self.refuse_attempt(BadDeed, {"position": 2}, [*[("prefer", (1, 1), (2, 1))] * 2, ("x",)])

    def test_an_attempt_that_changes_nothing(self):
        before = whole_view(self.desk)
        self.assertEqual(self.desk.attempt([("merge", "main", ["main"], {}), ("forget", (1, 1), (2, 1))]), [0, False])
        self.assertEqual(whole_view(self.desk), before)

    def test_the_empty_attempt(self):
        before = whole_view(self.desk)
        self.check([], self.desk.attempt, [])
        self.assertEqual(whole_view(self.desk), before)

    def test_later_deeds_that_undo_what_earlier_ones_did(self):
        before = whole_view(self.desk)
        self.assertEqual(self.desk.attempt([("fork", "side", "main"), ("drop", "side")]), [0, None])
        self.assertEqual(self.desk.attempt([("prefer", (1, 1), (2, 1)), ("forget", (1, 1), (2, 1))]), [True, True])
        self.assertEqual(view(self.desk)[:5], before[:5])
        self.assertEqual(self.counts(), [2, 0])
        self.assertEqual(self.desk.journal(), ["fork side main", "drop side", "prefer 1=1 2=1", "forget 1=1 2=1"])
        self.desk.undo()
        self.assertEqual(self.desk.journal(), ["fork side main", "drop side"])

    def test_what_was_passed_and_what_is_returned_may_be_changed(self):
        deeds = [("fork", "side", "main"), ("write", "side", {2: 6}), ("merge", "main", ["side", "main"], {9: 9}),
                 ("write", "side", {3: 3}), ("carry", "main", "side", [3])]
        results = self.call(self.desk.attempt, deeds)
        before = whole_view(self.desk)
        spoil(deeds)
        spoil(results)
        self.assertEqual(whole_view(self.desk), before)
        self.desk.undo()
        self.desk.redo()
        self.assertEqual(whole_view(self.desk), before)

    def test_twenty_deeds_and_some_more(self):
        deeds = [("write", "main", {place: 1}) for place in range(3, 28)]
        self.assertEqual(self.desk.attempt(deeds), list(range(1, 26)))
        self.assertEqual(self.counts(), [1, 0])


class UndoTest(StepsCase):
    def test_nothing_to_undo_or_redo(self):
        for _ in range(2):
            self.refuse_call(NothingToUndo, self.desk.undo)
            self.refuse_call(NothingToRedo, self.desk.redo)
        self.desk.write("main", {7: 7})
        self.refuse_call(NothingToRedo, self.desk.redo)
        self.desk.undo()
        self.refuse_call(NothingToUndo, self.desk.undo)

    def refuse_call(self, error, method):
        before = deepcopy(whole_view(self.desk))
        self.refuse(error, {}, method)
        self.assertEqual(whole_view(self.desk), before)

    def test_each_kind_of_step(self):
        deeds = [("fork", "side", "main"), ("write", "side", {2: 6}), ("merge", "main", ["side"], {}),
                 ("merge", "main", ["side"], {9: 9}), ("settle", "side", "main"), ("write", "side", {3: 3}),
                 ("carry", "main", "side", [3]), ("prefer", (1, 4), (2, 4)), ("forget", (1, 4), (2, 4)), ("drop", "main")]
        views = [whole_view(self.desk)]
        for deed in deeds:
            call_deed(self.desk, deed)
            views.append(whole_view(self.desk))
        self.assertEqual(self.counts(), [10, 0])
        for many in range(9, -1, -1):
            self.assertIsNone(self.desk.undo())
            self.assert_like(views[many], [many, 10 - many])
        for many in range(1, 11):
            self.assertIsNone(self.desk.redo())
            self.assert_like(views[many], [many, 10 - many])

    def assert_like(self, expected, counts):
        """Check all that the desk shows, with other numbers of steps."""
        self.assertEqual(whole_view(self.desk), [*expected[:5], *counts, *expected[7:]])

    def test_numbers_are_used_again(self):
        self.assertEqual(self.desk.write("main", {7: 7}), 1)
        self.desk.undo()
        self.assertEqual(self.desk.write("main", {8: 8}), 1)
        self.assertEqual([self.desk.book("main"), self.desk.history().node_count()], [{1: 5, 8: 8}, 2])

    def test_a_new_step_drops_those_taken_back(self):
        for place in (7, 8, 9):
            self.desk.write("main", {place: 1})
        self.desk.undo()
        self.desk.undo()
        self.assertEqual(self.counts(), [1, 2])
        self.desk.prefer((1, 1), (2, 1))
        self.assertEqual(self.counts(), [2, 0])
        self.refuse_call(NothingToRedo, self.desk.redo)
        self.assertEqual(self.desk.journal(), ["write main 7=1", "prefer 1=1 2=1"])

    def test_refused_and_idle_calls_drop_nothing(self):
        self.desk.prefer((1, 1), (2, 1))
        self.desk.write("main", {7: 1})
        self.desk.undo()
        for deed in [("write", "main", {2: 5}), ("drop", "main"), ("merge", "main", ["gone"], {}), ("fly",)]:
            with self.assertRaises(ShelfError):
                self.desk.attempt([("prefer", (3, 3), (4, 4)), deed])
        for deed in [("merge", "main", ["main"], {}), ("prefer", (1, 1), (2, 1)), ("forget", (9, 9), (9, 8))]:
            call_deed(self.desk, deed)
            self.desk.attempt([deed, deed])
        self.desk.attempt([])
        self.assertEqual(self.counts(), [1, 1])
        self.desk.redo()
        self.assertEqual([self.desk.book("main"), self.counts()], [{1: 5, 7: 1}, [2, 0]])

    def test_an_attempt_is_one_step(self):
        self.desk.attempt([("write", "main", {7: 1}), ("write", "main", {8: 1})])
        self.desk.write("main", {9: 1})
        self.desk.undo()
        self.desk.undo()
        self.assertEqual([self.desk.book("main"), self.counts()], [{1: 5}, [0, 2]])
        self.desk.redo()
        self.assertEqual([self.desk.book("main"), self.counts()], [{1: 5, 7: 1, 8: 1}, [1, 1]])

    def test_copies_stay_as_they_were(self):
        self.desk.write("main", {7: 1})
        self.desk.prefer((1, 1), (2, 1))
        history, answers = self.desk.history(), self.desk.answers()
        self.desk.undo()
        self.desk.undo()
        history.write(1, {9: 9})
        answers.forget((1, 1), (2, 1))
        self.desk.redo()
        self.desk.redo()
        self.assertEqual(self.desk.history().node_count(), 2)
        self.assertEqual(list(self.desk.answers()), [((1, 1), (2, 1))])

    def test_sixty_deeds_and_some_more(self):
        views = [whole_view(self.desk)]
        for place in range(70):
            self.desk.write("main", {3 + place: 1})
            views.append(whole_view(self.desk))
        for many in range(69, -1, -1):
            self.desk.undo()
            if many % 10 == 0:
                self.assert_like(views[many], [many, 70 - many])

    def test_random_steps(self):
        """Against a desk that does all its steps again from the beginning."""
        chance = random.Random(76)
        seen = {"undo": 0, "redo": 0, "dropped": 0, "refused": 0, "idle": 0}
        for _ in range(80):
            rules = some_rules(chance)
            if not rules.is_lawful({}):
                continue
            self.desk, model = Desk(rules, {}), ModelDesk(rules, {})
            for _ in range(25):
                kind = chance.random()
                if kind < 0.3 and model.done:
                    seen["undo"] += 1
                    self.desk.undo()
                    model.undo()
                elif kind < 0.45 and model.undone:
                    seen["redo"] += 1
                    self.desk.redo()
                    model.redo()
                else:
                    deeds = [random_deed(chance, self.desk) for _ in range(chance.choice([1, 1, 2, 3]))]
                    deeds += [("fly", "away")] * (chance.random() < 0.05)
                    self.check_attempt(model, deeds, seen)
                self.assertEqual(view(self.desk), model.view())
                self.assertEqual(self.desk.journal(), model.lines())
        self.assertGreater(min(seen.values()), 20, seen)

    def check_attempt(self, model, deeds, seen):
        steps, undone = model.view()[-2:]
        try:
            expected = model.step(deeds)
        except ShelfError as error:
            seen["refused"] += 1
            self.refuse_attempt(type(error), vars(error), deeds)
        else:
            self.check_results(deeds, expected)
            seen["idle"] += model.view()[-2] == steps
            seen["dropped"] += undone > model.view()[-1]

    def check_results(self, deeds, expected):
        passed = deepcopy(deeds)
        self.assertEqual(self.desk.attempt(deeds), expected)
        self.assertEqual(deeds, passed)


if __name__ == "__main__":
    unittest.main()
