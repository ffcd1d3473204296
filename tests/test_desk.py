"""Points 2, 3, 74 and 75: desks and their deeds."""

import random
import unittest

from forkedshelves.answers import Answers
from forkedshelves.desk import Desk
from forkedshelves.errors import (AnswerRing, Contradiction, EmptyDeed, ForkExists, LastFork, NoFork, NotChanged, OpenFold,
                                  PlaceClash, RuleClash, ShelfError, TooWide, Unanswered, Unlawful)
from forkedshelves.forest import Forest
from forkedshelves.history import History
from forkedshelves.listed import Ban
from forkedshelves.pairs import Apart, Needs
from forkedshelves.rulebook import RuleBook
from forkedshelves.shelving import plant_node
from forkedshelves.sums import Total
from tests.deskcases import DeskCase, ModelDesk, call_deed, random_deed, view, whole_view
from tests.helpers import spoil
from tests.histories import snapshot, some_rules


class NewDeskTest(DeskCase):
    def test_a_new_desk(self):
        desk = Desk(RuleBook([]), {1: 5, 9: 2})
        self.assertEqual(view(desk), [["main"], {"main": 0}, {"main": {1: 5, 9: 2}},
                                      snapshot(History(RuleBook([]), {1: 5, 9: 2})), [], 0, 0])
        self.assertEqual(desk.journal(), [])

    def test_an_unlawful_book(self):
        rules = RuleBook([("link", Needs([(3, 1)])), ("unlike", Apart([1, 2]))])
        self.refuse(Unlawful, {"key": "link", "bar": ((1, 0), (3, 4))}, Desk, rules, {3: 4})
        self.refuse(Unlawful, {"key": "unlike", "bar": ((1, 4), (2, 4))}, Desk, rules, {3: 4, 1: 4, 2: 4})

    def test_the_book_that_was_passed_may_be_changed(self):
        book = {1: 5}
        desk = Desk(RuleBook([]), book)
        spoil(book)
        self.assertEqual(desk.book("main"), {1: 5})

    def test_the_rule_book_is_kept(self):
        rules = RuleBook([("unlike", Apart([1, 2]))])
        self.assertIs(Desk(rules, {}).history().rulebook, rules)

    def test_desks_share_nothing(self):
        desks = [Desk(RuleBook([]), {}) for _ in "ab"]
        desks[0].fork("side", "main")
        desks[0].write("main", {1: 1})
        desks[0].prefer((1, 1), (1, 2))
        self.assertEqual(whole_view(desks[1]), whole_view(Desk(RuleBook([]), {})))


class ForkAndDropTest(DeskCase):
    def setUp(self):
        self.desk = Desk(RuleBook([]), {1: 5})

    def test_fork(self):
        self.step(0, "fork", "side", "main")
        self.step(1, "write", "side", {2: 6})
        self.step(1, "fork", "other", "side")
        self.step(0, "fork", "again", "main")
        self.assertEqual(view(self.desk)[:2], [["again", "main", "other", "side"],
                                               {"main": 0, "side": 1, "other": 1, "again": 0}])

    def test_fork_errors_in_order(self):
        self.refuse_deed(NoFork, {"name": "side"}, "fork", "main", "side")
        self.refuse_deed(NoFork, {"name": "side"}, "fork", "side", "side")
        self.refuse_deed(ForkExists, {"name": "main"}, "fork", "main", "main")
        self.step(0, "fork", "side", "main")
        self.refuse_deed(ForkExists, {"name": "side"}, "fork", "side", "main")

    def test_drop(self):
        self.step(0, "fork", "side", "main")
        self.step(1, "write", "main", {2: 6})
        self.step(None, "drop", "main")
        self.assertEqual([self.desk.names(), self.desk.tip("side")], [["side"], 0])
        self.assertEqual(self.desk.history().node_count(), 2)
        self.step(2, "write", "side", {1: 0})
        self.step(2, "fork", "main", "side")

    def test_drop_errors_in_order(self):
        self.refuse_deed(NoFork, {"name": "side"}, "drop", "side")
        self.refuse_deed(LastFork, {"name": "main"}, "drop", "main")
        self.step(0, "fork", "side", "main")
        self.refuse_deed(NoFork, {"name": "sides"}, "drop", "sides")
        self.step(None, "drop", "main")
        self.refuse_deed(LastFork, {"name": "side"}, "drop", "side")
        self.refuse_deed(NoFork, {"name": "main"}, "drop", "main")


class WriteTest(DeskCase):
    def setUp(self):
        self.desk = Desk(RuleBook([("unlike", Apart([1, 2]))]), {1: 5})

    def test_writes(self):
        self.step(1, "write", "main", {2: 6, 9: 0})
        self.step(2, "write", "main", {1: 5})
        self.step(3, "write", "main", {1: 0, 7: 7})
        self.assertEqual([self.desk.tip("main"), self.desk.book("main")], [3, {2: 6, 7: 7}])
        history = self.desk.history()
        self.assertEqual([history.kind(3), history.parents(3), history.written(3)], ["write", [2], {1: 0, 7: 7}])

    def test_errors_in_order(self):
        self.refuse_deed(NoFork, {"name": "side"}, "write", "side", {})
        self.refuse_deed(NoFork, {"name": "side"}, "write", "side", {2: 5})
        self.refuse_deed(EmptyDeed, {}, "write", "main", {})
        self.refuse_deed(Unlawful, {"key": "unlike", "bar": ((1, 5), (2, 5))}, "write", "main", {2: 5, 7: 7})
        self.step(1, "write", "main", {7: 7})

    def test_what_was_passed_may_be_changed(self):
        writes = {2: 6}
        self.desk.write("main", writes)
        before = whole_view(self.desk)
        spoil(writes)
        self.assertEqual(whole_view(self.desk), before)


class MergeTest(DeskCase):
    def setUp(self):
        self.desk = Desk(RuleBook([("unlike", Apart([1, 2]))]), {1: 5})
        for name in ("side", "other", "third"):
            self.desk.fork(name, "main")

    def test_the_example_of_the_document(self):
        desk = Desk(RuleBook([]), {1: 5})
        results = [desk.fork("side", "main"), desk.write("side", {2: 6}), desk.write("main", {1: 7})]
        self.assertEqual([results, desk.merge("main", ["side"]), sorted(desk.book("main").items()), desk.journal()],
                         [[0, 1, 2], 3, [(1, 7), (2, 6)],
                          ["fork side main", "write side 2=6", "write main 1=7", "merge main side *"]])

    def test_nothing_happens(self):
        for others in (["side"], ["main"], ["side", "main", "other", "side"]):
            self.idle(0, "merge", "main", others, {})
        self.step(1, "write", "main", {7: 1})
        self.step(2, "write", "main", {8: 1})
        for others in (["side"], ["main"], ["main", "main"], ["side", "main", "other", "side"]):
            self.idle(2, "merge", "main", others, {})

    def test_only_the_tip_moves(self):
        self.step(1, "write", "side", {7: 1})
        self.step(2, "write", "side", {8: 1})
        self.step(2, "merge", "main", ["side"], {})
        self.step(2, "merge", "other", ["main", "third", "side", "other", "main"], {})
        self.step(2, "merge", "third", ["third", "side", "side"], {})
        self.assertEqual([self.desk.history().node_count(), self.desk.tip("side")], [3, 2])
        self.idle(2, "merge", "third", ["side"], {})

    def test_a_tip_that_knows_all_others(self):
        self.step(1, "write", "side", {7: 1})
        self.step(2, "write", "other", {8: 1})
        self.step(3, "merge", "third", ["side", "other"], {})
        self.step(3, "merge", "side", ["other", "third"], {})
        self.assertEqual(self.desk.history().node_count(), 4)

    def test_a_node_is_made(self):
        self.step(1, "write", "side", {7: 1})
        self.step(2, "write", "main", {8: 1})
        self.step(3, "merge", "main", ["side", "main", "side", "other"], {})
        history = self.desk.history()
        self.assertEqual([history.kind(3), history.parents(3), history.written(3)], ["merge", [2, 1, 2, 1, 0], {}])
        self.assertEqual([self.desk.book("main"), self.desk.tip("side")], [{1: 5, 7: 1, 8: 1}, 1])

    def test_none_of_the_tips_knows_the_fork(self):
        self.step(1, "write", "side", {7: 1})
        self.step(2, "write", "other", {8: 1})
        self.step(3, "merge", "main", ["side", "other"], {})
        self.assertEqual(self.desk.history().parents(3), [0, 1, 2])

    def test_answers_make_a_node_in_any_case(self):
        self.step(1, "merge", "main", ["side"], {1: 6})
        self.step(2, "merge", "main", ["main"], {1: 6})
        self.step(3, "merge", "side", ["main", "main"], {9: 0})
        history = self.desk.history()
        self.assertEqual([history.parents(3), history.written(3), history.book(3)], [[0, 2, 2], {9: 0}, {1: 6}])

    def test_answers_that_are_not_passed(self):
        self.desk.write("side", {7: 1})
        self.desk.write("main", {8: 1})
        self.assertEqual(self.desk.merge("main", ["side"], answers=None), 3)
        self.assertEqual(self.desk.merge("main", ["side"], answers={}), 3)
        self.assertEqual(self.desk.merge("main", ["side"]), 3)
        self.assertEqual(self.desk.journal()[-1], "merge main side *")
        self.assertEqual(self.desk.merge("main", ["side"], answers={9: 9}), 4)
        self.assertEqual(self.desk.journal()[-1], "merge main side 9=9")

    def test_errors_in_order(self):
        self.desk.write("main", {7: 1, 2: 4})
        self.desk.write("side", {7: 2, 1: 4})
        self.refuse_deed(NoFork, {"name": "gone"}, "merge", "gone", ["none", "side"], {})
        self.refuse_deed(NoFork, {"name": "none"}, "merge", "main", ["side", "none", "gone"], {})
        self.refuse_deed(PlaceClash, {"place": 7, "found": [1, 2]}, "merge", "main", ["side"], {})
        self.refuse_deed(PlaceClash, {"place": 7, "found": [1, 2]}, "merge", "main", ["side"], {1: 3})
        self.refuse_deed(RuleClash, {"key": "unlike", "bar": ((1, 4), (2, 4))}, "merge", "main", ["side"], {7: 2})
        self.step(3, "merge", "main", ["side"], {7: 2, 1: 3})

    def test_no_error_if_nothing_is_merged(self):
        # The tips of both forks are in the past of the merge that has answered their clash.
        self.desk.write("side", {7: 2})
        self.desk.write("other", {7: 3})
        self.desk.merge("third", ["side", "other"], answers={7: 4})
        self.idle(3, "merge", "third", ["side", "other"], {})
        self.step(3, "merge", "side", ["other", "third"], {})

    def test_what_was_passed_may_be_changed(self):
        others, answers = ["side", "main"], {7: 1}
        self.desk.merge("main", others, answers=answers)
        self.assertEqual([others, answers], [["side", "main"], {7: 1}])
        before = whole_view(self.desk)
        spoil(others)
        spoil(answers)
        self.assertEqual(whole_view(self.desk), before)


class SettleTest(DeskCase):
    def setUp(self):
        self.desk = Desk(RuleBook([("unlike", Apart([1, 2])), ("link", Needs([(3, 1)]))]), {8: 8})
        self.desk.fork("side", "main")

    def last_merge(self):
        history = self.desk.history()
        node = history.node_count() - 1
        return [history.kind(node), history.parents(node), history.written(node), history.book(node)]

    def test_settling_clashes(self):
        self.desk.write("main", {1: 4, 3: 1, 7: 1})
        self.desk.write("side", {2: 4, 7: 2, 9: 9})
        self.desk.prefer((2, 4), (1, 4))
        self.desk.prefer((7, 1), (7, 2))
        self.step(3, "settle", "main", "side")
        self.assertEqual(self.last_merge(), ["merge", [1, 2], {1: 0, 3: 0, 7: 1}, {2: 4, 7: 1, 8: 8, 9: 9}])
        self.assertEqual([self.desk.tip("main"), self.desk.tip("side")], [3, 2])

    def test_a_settled_value_that_is_the_only_one_found_needs_no_answer(self):
        self.desk.write("main", {7: 1, 9: 9})
        self.desk.write("side", {7: 1, 8: 0})
        self.step(3, "settle", "side", "main")
        self.assertEqual(self.last_merge(), ["merge", [2, 1], {}, {7: 1, 9: 9}])

    def test_several_values_found_where_one_fork_has_taken_its_deeds_back(self):
        self.desk.write("main", {7: 1})
        self.desk.write("main", {7: 0})
        self.desk.write("side", {7: 2})
        self.step(4, "settle", "main", "side")
        self.assertEqual(self.last_merge(), ["merge", [2, 3], {7: 2}, {7: 2, 8: 8}])

    def test_equal_tips_and_one_in_the_past_of_the_other(self):
        self.step(1, "settle", "main", "side")
        self.assertEqual(self.last_merge(), ["merge", [0, 0], {}, {8: 8}])
        self.step(2, "settle", "main", "side")
        self.step(3, "settle", "side", "main")
        self.assertEqual(self.last_merge(), ["merge", [0, 2], {}, {8: 8}])
        self.step(4, "write", "main", {7: 1})
        self.step(5, "settle", "side", "main")
        self.assertEqual(self.last_merge(), ["merge", [3, 4], {}, {7: 1, 8: 8}])

    def test_the_same_name_twice(self):
        self.desk.write("main", {7: 1})
        self.step(2, "settle", "main", "main")
        self.assertEqual(self.last_merge(), ["merge", [1, 1], {}, {7: 1, 8: 8}])

    def crossing(self):
        """Two forks whose fold is open at the places 5 and 7."""
        self.desk.write("main", {7: 1, 5: 1})
        self.desk.write("side", {7: 2, 5: 2})
        self.desk.fork("left", "main")
        self.desk.merge("left", ["side"], answers={7: 1, 5: 1})
        self.desk.merge("side", ["main"], answers={7: 2, 5: 1})

    def test_errors_in_order(self):
        self.refuse_deed(NoFork, {"name": "gone"}, "settle", "gone", "none")
        self.refuse_deed(NoFork, {"name": "none"}, "settle", "main", "none")
        self.crossing()
        self.refuse_deed(NoFork, {"name": "gone"}, "settle", "gone", "left")
        self.refuse_deed(OpenFold, {"place": 5}, "settle", "left", "side")
        self.step(5, "settle", "side", "main")

    def test_an_open_fold_comes_before_rules_that_are_too_wide(self):
        self.desk = Desk(RuleBook([("total", Total([1, 2, 3], 5))]), {})
        self.desk.fork("side", "main")
        self.refuse_deed(TooWide, {"key": "total"}, "settle", "main", "side")
        self.refuse_deed(TooWide, {"key": "total"}, "settle", "main", "main")
        self.crossing()
        self.refuse_deed(OpenFold, {"place": 5}, "settle", "left", "side")

    def test_a_fold_that_is_not_lawful(self):
        # The last common nodes write 4 to the places 1 and 2, and both forks have answered this.
        self.desk.write("main", {1: 4})
        self.desk.write("side", {2: 4})
        self.desk.fork("left", "main")
        self.desk.merge("left", ["side"], answers={1: 5})
        self.desk.merge("side", ["main"], answers={2: 6})
        self.refuse_deed(Unlawful, {"key": "unlike", "bar": ((1, 4), (2, 4))}, "settle", "left", "side")
        self.refuse_deed(Unlawful, {"key": "unlike", "bar": ((1, 4), (2, 4))}, "carry", "left", "side", [99])

    def test_clashes_without_answers_and_rings(self):
        self.desk = Desk(RuleBook([("needs", Needs([(1, 3), (2, 4), (3, 1), (4, 2)])),
                                   ("ban", Ban([[(1, 1), (2, 1)], [(3, 1), (4, 1)]]))]), {})
        self.desk.fork("side", "main")
        self.desk.write("main", {1: 1, 3: 1})
        self.desk.write("side", {2: 1, 4: 1})
        self.refuse_deed(Unanswered, {"first": (1, 1), "second": (2, 1)}, "settle", "main", "side")
        self.refuse_deed(Unanswered, {"first": (2, 1), "second": (1, 1)}, "settle", "side", "main")
        self.desk.prefer((1, 1), (2, 1))
        self.desk.prefer((4, 1), (3, 1))
        self.refuse_deed(AnswerRing, {}, "settle", "main", "side")
        self.desk.forget((4, 1), (3, 1))
        self.desk.prefer((3, 1), (4, 1))
        self.step(3, "settle", "main", "side")
        self.assertEqual(self.last_merge(), ["merge", [1, 2], {2: 0, 4: 0}, {1: 1, 3: 1}])


class CarryTest(DeskCase):
    def setUp(self):
        self.rules = RuleBook([("unlike", Apart([1, 2])), ("link", Needs([(3, 1)]))])
        self.desk = Desk(self.rules, {8: 8})
        self.desk.fork("side", "main")

    def last_write(self):
        history = self.desk.history()
        node = history.node_count() - 1
        return [history.kind(node), history.parents(node), history.written(node), history.book(node)]

    def test_carrying_with_what_is_needed(self):
        self.desk.write("side", {1: 4, 3: 1, 7: 1, 8: 0})
        self.step(2, "carry", "main", "side", [3])
        self.assertEqual(self.last_write(), ["write", [0], {1: 4, 3: 1}, {1: 4, 3: 1, 8: 8}])
        self.step(3, "carry", "main", "side", [8, 7, 8])
        self.assertEqual(self.last_write(), ["write", [2], {7: 1, 8: 0}, {1: 4, 3: 1, 7: 1}])
        self.assertEqual([self.desk.tip("main"), self.desk.tip("side")], [3, 1])
        self.assertEqual(self.desk.journal()[-1], "carry main side 7,8")

    def test_changes_are_those_since_the_fold(self):
        self.desk.write("side", {7: 1})
        self.desk.merge("main", ["side"])
        self.desk.write("side", {9: 9})
        self.refuse_deed(NotChanged, {"place": 7}, "carry", "main", "side", [9, 7])
        self.step(3, "carry", "main", "side", [9])
        self.assertEqual(self.last_write(), ["write", [1], {9: 9}, {7: 1, 8: 8, 9: 9}])

    def test_a_place_of_both_forks_gets_the_value_of_the_source(self):
        self.desk.write("main", {7: 1})
        self.desk.write("side", {7: 2})
        self.step(3, "carry", "main", "side", [7])
        self.assertEqual(self.last_write(), ["write", [1], {7: 2}, {7: 2, 8: 8}])

    def test_the_same_name_twice(self):
        self.desk.write("main", {7: 1})
        self.refuse_deed(NotChanged, {"place": 7}, "carry", "main", "main", [7])
        self.refuse_deed(EmptyDeed, {}, "carry", "main", "main", [])

    def test_a_tip_in_the_past_of_the_other(self):
        self.desk.write("main", {7: 1})
        self.refuse_deed(NotChanged, {"place": 7}, "carry", "main", "side", [7])
        self.step(2, "carry", "side", "main", [7])
        self.assertEqual(self.last_write(), ["write", [0], {7: 1}, {7: 1, 8: 8}])

    def test_errors_in_order(self):
        self.refuse_deed(NoFork, {"name": "gone"}, "carry", "gone", "none", [])
        self.refuse_deed(NoFork, {"name": "none"}, "carry", "main", "none", [7])
        self.refuse_deed(NotChanged, {"place": 8}, "carry", "main", "side", [8, 7])
        self.refuse_deed(EmptyDeed, {}, "carry", "main", "side", [])
        self.desk.write("main", {2: 4})
        self.desk.write("side", {1: 4, 3: 1})
        self.refuse_deed(NotChanged, {"place": 9}, "carry", "main", "side", [3, 9, 8])
        self.refuse_deed(Unlawful, {"key": "unlike", "bar": ((1, 4), (2, 4))}, "carry", "main", "side", [3])
        self.refuse_deed(EmptyDeed, {}, "carry", "main", "side", [])

    def test_an_open_fold(self):
        self.desk.write("main", {7: 1, 5: 1})
        self.desk.write("side", {7: 2})
        self.desk.fork("left", "main")
        self.desk.merge("left", ["side"], answers={7: 1})
        self.desk.merge("side", ["main"], answers={7: 2})
        self.refuse_deed(OpenFold, {"place": 7}, "carry", "left", "side", [99])
        self.refuse_deed(NoFork, {"name": "gone"}, "carry", "left", "gone", [99])

    def test_rules_that_are_too_wide(self):
        self.desk = Desk(RuleBook([("total", Total([1, 2, 3], 5))]), {})
        self.desk.fork("side", "main")
        self.desk.write("side", {7: 1})
        self.refuse_deed(TooWide, {"key": "total"}, "carry", "main", "side", [99])

    def test_what_was_passed_may_be_changed(self):
        self.desk.write("side", {7: 1})
        places = [7, 7]
        self.desk.carry("main", "side", places)
        self.assertEqual(places, [7, 7])
        before = whole_view(self.desk)
        spoil(places)
        self.assertEqual(whole_view(self.desk), before)


class AnswersTest(DeskCase):
    def setUp(self):
        self.desk = Desk(RuleBook([]), {})

    def test_prefer_and_forget(self):
        self.step(True, "prefer", (1, 4), (2, 4))
        self.idle(False, "prefer", (1, 4), (2, 4))
        self.idle(False, "forget", (2, 4), (1, 4))
        self.step(True, "prefer", (1, 0), (1, 3))
        self.assertEqual(list(self.desk.answers()), [((1, 0), (1, 3)), ((1, 4), (2, 4))])
        self.step(True, "forget", (1, 4), (2, 4))
        self.idle(False, "forget", (1, 4), (2, 4))
        self.step(True, "prefer", (2, 4), (1, 4))

    def test_contradictions(self):
        self.refuse_deed(Contradiction, {"winner": (1, 4), "loser": (1, 4)}, "prefer", (1, 4), (1, 4))
        self.step(True, "prefer", (1, 4), (2, 4))
        self.refuse_deed(Contradiction, {"winner": (2, 4), "loser": (1, 4)}, "prefer", (2, 4), (1, 4))


class ViewsTest(DeskCase):
    def setUp(self):
        self.desk = Desk(RuleBook([]), {1: 5}, depth=4)
        self.desk.fork("side", "main")
        self.desk.write("side", {2: 6})
        self.desk.prefer((1, 1), (2, 1))

    def test_names_ascend(self):
        for name in ("b", "zz", "a", "ab"):
            self.desk.fork(name, "main")
        self.check(["a", "ab", "b", "main", "side", "zz"], self.desk.names)

    def test_missing_forks(self):
        for method in (self.desk.tip, self.desk.book):
            for name in ("gone", "", "Main", "sides"):
                self.refuse(NoFork, {"name": name}, method, name)

    def test_books_are_new(self):
        self.check({1: 5, 2: 6}, self.desk.book, "side")

    def test_the_history_is_a_copy(self):
        history = self.desk.history()
        self.assertIs(type(history), History)
        before = whole_view(self.desk)
        history.write(1, {9: 9})
        history.merge([0, 1])
        self.assertEqual(whole_view(self.desk), before)
        self.assertEqual(self.desk.write("main", {7: 1}), 2)
        self.assertEqual([history.node_count(), history.book(2)], [4, {1: 5, 2: 6, 9: 9}])

    def test_the_answers_are_a_copy(self):
        answers = self.desk.answers()
        self.assertIs(type(answers), Answers)
        before = whole_view(self.desk)
        answers.prefer((7, 7), (8, 8))
        answers.forget((1, 1), (2, 1))
        self.assertEqual(whole_view(self.desk), before)
        self.desk.forget((1, 1), (2, 1))
        self.assertEqual(list(answers), [((7, 7), (8, 8))])

    def test_the_journal_is_new(self):
        self.check(["fork side main", "write side 2=6", "prefer 1=1 2=1"], self.desk.journal)

    def test_part_count(self):
        # The tree of the start has the place 1 alone, that of the side the places 1 and 2; they share a leaf and a pair.
        self.assertEqual(self.desk.part_count(), 5 + 5)
        self.desk.drop("main")
        self.assertEqual(self.desk.part_count(), 7)
        self.assertEqual(Desk(RuleBook([]), {1: 5}).part_count(), 9)
        self.assertEqual(Desk(RuleBook([]), {0: 5}, depth=0).part_count(), 1)
        self.assertEqual(Desk(RuleBook([]), {}, depth=0).part_count(), 0)

    def test_part_count_of_forks_with_one_tip(self):
        desk = Desk(RuleBook([]), {1: 5}, depth=3)
        for name in ("a", "b"):
            desk.fork(name, "main")
        self.assertEqual(desk.part_count(), 4)
        desk.write("a", {1: 5})
        self.assertEqual(desk.part_count(), 8)

    def test_asking_changes_nothing(self):
        before = whole_view(self.desk)
        self.assertEqual(whole_view(self.desk), before)


class RandomDeskTest(DeskCase):
    def test_random_deeds(self):
        """Against the words of the point; a refused deed changes nothing."""
        chance = random.Random(74)
        done, refused = {}, {}
        for number in range(120):
            rules = some_rules(chance) if number % 2 else RuleBook([("apart", Apart([0, 1, 2]))])
            if not rules.is_lawful({}):
                continue
            self.desk, model = Desk(rules, {}), ModelDesk(rules, {})
            for _ in range(30):
                deed = random_deed(chance, self.desk)
                try:
                    expected = model.step([deed])[0]
                except ShelfError as error:
                    self.refuse_deed(type(error), vars(error), *deed)
                    refused[type(error).__name__] = refused.get(type(error).__name__, 0) + 1
                else:
                    self.assertEqual(call_deed(self.desk, deed), expected)
                    done[deed[0]] = done.get(deed[0], 0) + 1
                self.assertEqual(view(self.desk), model.view())
                self.assertEqual(self.desk.journal(), model.lines())
                self.check_parts()
        self.assertEqual(len(done), 8, done)
        self.assertGreater(min(done.values()), 10, done)
        self.assertGreater(len(refused), 10)

    def check_parts(self):
        forest = Forest(8)
        for name in self.desk.names():
            plant_node(forest, self.desk.history(), self.desk.tip(name))
        self.assertEqual(self.desk.part_count(), forest.part_count())


if __name__ == "__main__":
    unittest.main()
