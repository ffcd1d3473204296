"""Points 7 to 10 for rules of all nine kinds, over all books and marks of a small world."""

import unittest

from tests.helpers import all_books, all_marks, held, in_order, shuffles
from tests.rulecases import all_cases

OUTSIDE = 9
VALUES = [0, 1, 2, 3]


class RulesByForceTest(unittest.TestCase):
    def each_case(self):
        return [(case, sorted([*case.places, OUTSIDE])) for case in all_cases()]

    def test_places_and_width(self):
        for case, _ in self.each_case():
            self.assertEqual(case.rule.places, case.places, case.name)
            self.assertIs(type(case.rule.places), tuple, case.name)
            self.assertEqual(case.rule.width, case.width, case.name)

    def test_width_is_that_of_the_largest_bar(self):
        for case, world in self.each_case():
            widths = [len(marks) for marks in all_marks(world, [*VALUES, 4]) if case.is_bar(marks)]
            # The bars of two rules need values that are not in this small world.
            if case.name not in ("Total ([1, 4, 6], 100000)", "Order (1, 6, -9999)"):
                self.assertEqual(case.rule.width, max(widths, default=0), case.name)

    def test_is_bar_of_marks_in_order(self):
        for case, world in self.each_case():
            for marks in all_marks(world, VALUES):
                self.assertIs(case.rule.is_bar(marks), case.is_bar(marks), (case.name, marks))

    def test_is_bar_of_marks_out_of_order(self):
        for case, world in self.each_case():
            for bar in all_marks(world, VALUES):
                if case.is_bar(bar):
                    for marks in shuffles(bar):
                        self.assertIs(case.rule.is_bar(marks), False, (case.name, marks))

    def test_is_bar_of_a_place_named_twice(self):
        for case, world in self.each_case():
            for bar in all_marks(world, VALUES):
                if case.is_bar(bar):
                    for place, value in bar:
                        self.assertIs(case.rule.is_bar(tuple(sorted([*bar, (place, value)]))), False, case.name)
                        self.assertIs(case.rule.is_bar(tuple(sorted([*bar, (place, value + 1)]))), False, case.name)

    def test_no_two_marks_of_one_place_are_a_bar(self):
        for case, world in self.each_case():
            for place in world:
                for marks in [((place, 0), (place, 1)), ((place, 1), (place, 1)), ((place, 1), (place, 2))]:
                    self.assertIs(case.rule.is_bar(marks), False, case.name)

    def test_bars_in_reason_and_keeps(self):
        for case, world in self.each_case():
            bars = [marks for marks in all_marks(world, VALUES) if case.is_bar(marks)]
            for book in all_books(world, VALUES):
                expected = in_order([bar for bar in bars if held(book, bar)])
                before = dict(book)
                self.assertEqual(case.rule.bars_in(book), expected, case.name)
                self.assertEqual(case.rule.reason(book), expected[0] if expected else None, case.name)
                self.assertIs(case.rule.keeps(book), not expected, case.name)
                self.assertEqual(book, before)

    def test_keeps_means_what_the_kind_says(self):
        for case, world in self.each_case():
            for book in all_books(world, VALUES):
                self.assertIs(case.rule.keeps(book), case.keeps(book), (case.name, book))

    def test_no_bar_contains_another_one(self):
        for case, world in self.each_case():
            bars = [set(marks) for marks in all_marks(world, VALUES) if case.rule.is_bar(marks)]
            self.assertFalse([1 for bar in bars for other in bars if bar < other], case.name)

    def test_bars_are_tuples_of_tuples_in_a_list_of_their_own(self):
        for case, world in self.each_case():
            for book in all_books(world, [0, 1]):
                bars = case.rule.bars_in(book)
                self.assertIs(type(bars), list)
                self.assertTrue(all(type(bar) is tuple and type(mark) is tuple for bar in bars for mark in bar))
                kept = list(bars)
                bars.append("spoiled")
                self.assertEqual(case.rule.bars_in(book), kept, case.name)


if __name__ == "__main__":
    unittest.main()
