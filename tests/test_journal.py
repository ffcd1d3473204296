"""Points 2, 3 and 78: the journal of a desk, and desks that are read back from it."""

import random
import unittest

from forkedshelves.desk import Desk
from forkedshelves.errors import BadLine, ShelfError, Unlawful
from forkedshelves.journal import read_journal
from forkedshelves.lines import read_deed
from forkedshelves.pairs import Apart, Needs
from forkedshelves.rulebook import RuleBook
from tests.deskcases import DeskCase, random_deed, view, whole_view
from tests.histories import some_rules

LINES = ["fork side main", "write side 2=6,3=1", "write main 1=7", "merge main side *", "prefer 1=4 2=4",
         "carry side main 1", "settle side main", "forget 1=4 2=4", "merge side main 9=0", "drop main"]


class JournalCase(DeskCase):
    def setUp(self):
        self.rules = RuleBook([("unlike", Apart([1, 2]))])

    def read(self, lines, book=None):
        return self.call(read_journal, self.rules, {1: 5} if book is None else book, lines)

    def refuse_lines(self, number, lines):
        self.refuse(BadLine, {"number": number}, read_journal, self.rules, {1: 5}, lines)


class JournalTest(JournalCase):
    def test_the_example_of_the_document(self):
        desk = Desk(RuleBook([]), {1: 5})
        results = [desk.fork("side", "main"), desk.write("side", {2: 6}), desk.write("main", {1: 7})]
        found = [results, desk.merge("main", ["side"]), sorted(desk.book("main").items()), desk.journal()]
        lines = ["fork side main", "write side 2=6", "write main 1=7", "merge main side *"]
        self.assertEqual(found, [[0, 1, 2], 3, [(1, 7), (2, 6)], lines])
        self.assertEqual(view(read_journal(RuleBook([]), {1: 5}, lines)), view(desk))

    def test_deeds_of_attempts_one_by_one(self):
        desk = Desk(self.rules, {1: 5})
        desk.attempt([read_deed(line) for line in LINES[:4]])
        desk.attempt([read_deed(line) for line in LINES[4:]])
        self.check(LINES, desk.journal)
        self.assertEqual(desk.steps(), 2)

    def test_nothing_of_what_changed_nothing_or_was_refused(self):
        desk = Desk(self.rules, {1: 5})
        desk.merge("main", ["main"])
        desk.forget((1, 1), (2, 1))
        desk.prefer((1, 1), (2, 1))
        desk.prefer((1, 1), (2, 1))
        desk.attempt([("merge", "main", ["main"], {}), ("write", "main", {9: 1}), ("prefer", (1, 1), (2, 1))])
        for deed in [("write", "main", {}), ("drop", "main"), ("fork", "main", "main")]:
            with self.assertRaises(ShelfError):
                desk.attempt([("write", "main", {8: 1}), deed])
        self.check(["prefer 1=1 2=1", "write main 9=1"], desk.journal)

    def test_nothing_of_what_was_taken_back(self):
        desk = Desk(self.rules, {1: 5})
        desk.write("main", {7: 1})
        desk.attempt([("write", "main", {8: 1}), ("write", "main", {9: 1})])
        desk.undo()
        self.check(["write main 7=1"], desk.journal)
        desk.redo()
        self.check(["write main 7=1", "write main 8=1", "write main 9=1"], desk.journal)
        desk.undo()
        desk.undo()
        desk.write("main", {7: 2})
        self.check(["write main 7=2"], desk.journal)

    def test_the_order_of_names_and_duplicates(self):
        desk = Desk(self.rules, {1: 5})
        desk.fork("side", "main")
        desk.write("side", {7: 1, 3: 3})
        desk.merge("main", ["side", "main", "side"], answers={9: 1, 8: 0})
        desk.write("side", {8: 2, 7: 2})
        desk.carry("main", "side", [8, 7, 8])
        self.assertEqual(desk.journal()[1:], ["write side 3=3,7=1", "merge main side,main,side 8=0,9=1",
                                              "write side 7=2,8=2", "carry main side 7,8"])


class ReadJournalTest(JournalCase):
    def test_no_lines(self):
        desk = self.read([])
        self.assertIs(type(desk), Desk)
        self.assertEqual(whole_view(desk), whole_view(Desk(self.rules, {1: 5})))

    def test_lines_are_steps(self):
        desk = self.read(LINES)
        self.assertEqual([desk.steps(), desk.undone(), desk.journal()], [len(LINES), 0, LINES])
        for many in range(len(LINES) - 1, -1, -1):
            desk.undo()
            self.assertEqual(view(desk)[:5], view(self.read(LINES[:many]))[:5])
            self.assertEqual(desk.journal(), LINES[:many])

    def test_the_depth_is_passed_on(self):
        self.assertEqual(read_journal(self.rules, {1: 5}, []).part_count(), 9)
        self.assertEqual(read_journal(self.rules, {1: 5}, ["write main 2=1"], depth=2).part_count(), 5)

    def test_the_errors_of_a_desk_come_first(self):
        self.rules = RuleBook([("unlike", Apart([1, 2])), ("link", Needs([(3, 1)]))])
        for lines in ([], ["nonsense"], ["write main *"], LINES):
            self.refuse(Unlawful, {"key": "link", "bar": ((1, 0), (3, 4))}, read_journal, self.rules, {3: 4}, lines)

    def test_lines_that_are_no_texts(self):
        for wrong in ("", "undo", "write main 1=5 ", "write main 1=5\n", "fork  side main", "drop Main", "write main 1"):
            self.refuse_lines(1, [wrong])
            self.refuse_lines(3, ["fork side main", "write main 7=1", wrong, "nonsense"])

    def test_a_line_that_is_no_text_comes_before_an_earlier_line_that_cannot_be_done(self):
        self.refuse_lines(4, ["drop main", "write gone 1=1", "merge main main *", "nonsense", "drop"])
        self.refuse_lines(2, ["write main *", "x"])

    def test_lines_that_raise_an_error(self):
        for wrong in ("write main *", "write gone 1=1", "drop main", "fork main main", "write main 2=5", "carry main main *",
                      "prefer 1=1 1=1", "settle main gone", "merge main gone *", "merge main gone 1=1"):
            self.refuse_lines(1, [wrong])
            self.refuse_lines(2, ["write main 7=1", wrong, "drop main"])

    def test_lines_that_change_nothing(self):
        for wrong in ("merge main main *", "forget 1=1 2=1", "prefer 3=3 4=4"):
            self.refuse_lines(3, ["prefer 3=3 4=4", "write main 7=1", wrong, "drop main"])
        self.refuse_lines(1, ["merge main main *", "drop main"])
        self.refuse_lines(2, ["prefer 3=3 4=4", "prefer 3=3 4=4"])

    def test_the_first_of_those_that_cannot_be_done(self):
        self.refuse_lines(2, ["write main 7=1", "merge main main *", "drop main"])
        self.refuse_lines(2, ["write main 7=1", "drop main", "merge main main *"])

    def test_random_desks(self):
        """A desk that is read back shows the same, and goes on in the same way."""
        chance = random.Random(78)
        longest = 0
        for _ in range(60):
            self.rules = some_rules(chance)
            if not self.rules.is_lawful({}):
                continue
            desk = Desk(self.rules, {})
            for _ in range(25):
                self.some_deed(chance, desk)
            lines = desk.journal()
            other = self.read(lines, {})
            self.assertEqual([other.names(), other.journal()], [desk.names(), lines])
            self.assertEqual(view(other)[:5], view(desk)[:5])
            self.assertEqual([other.steps(), other.undone()], [len(lines), 0])
            longest = max(longest, len(lines))
            deed = random_deed(chance, desk)
            self.assertEqual(self.outcome(desk, deed), self.outcome(other, deed))
            self.assertEqual(view(other)[:5], view(desk)[:5])
        self.assertGreater(longest, 10)

    def some_deed(self, chance, desk):
        """A deed or two in an attempt, or a step back or forth."""
        try:
            if chance.random() < 0.15:
                desk.undo()
            elif chance.random() < 0.1:
                desk.redo()
            else:
                desk.attempt([random_deed(chance, desk) for _ in range(chance.choice([1, 1, 2]))])
        except ShelfError:
            pass

    def outcome(self, desk, deed):
        try:
            return desk.attempt([deed])
        except ShelfError as error:
            return [type(error), vars(error)]

    def test_sixty_lines_and_some_more(self):
        lines = [f"write main {place}=1" for place in range(3, 73)]
        desk = self.read(lines)
        self.assertEqual([desk.steps(), desk.tip("main")], [70, 70])


if __name__ == "__main__":
    unittest.main()
