"""Points 3, 38, 39 and 40: what goes wrong when nodes are merged by values alone."""

import random
import unittest

from forkedshelves.errors import NoNode, NotCommon
from forkedshelves.faults import base_faults, unserved, value_faults
from forkedshelves.folds import fold, last_common, value_merge
from forkedshelves.history import History
from forkedshelves.rulebook import RuleBook
from tests.histories import PLACES, HistoryCase, crossing_tips, model_common, model_found, model_past, some_nodes


def result_at(merge, place):
    """The value of a value merge at a place, or None if it clashes there."""
    book, clashing = merge
    return None if place in clashing else book.get(place, 0)


def merge_over_fold(history, first, second):
    book, open_values = fold(history, [first, second])
    return value_merge(book, sorted(open_values), history.book(first), history.book(second))


def written_on_both_sides(history, first, second, place):
    pasts = [model_past(history, [first]), model_past(history, [second])]
    writers = [{node for node in one if node == 0 or place in history.written(node)} for one in pasts]
    return bool(writers[0] - pasts[1]) and bool(writers[1] - pasts[0])


class ValueFaultsTest(HistoryCase):
    def setUp(self):
        self.history = History(RuleBook([]), {1: 5, 2: 6})

    def check_both(self, expected, first, second):
        self.check_on(self.history, expected, value_faults, first, second)
        self.check_on(self.history, expected, value_faults, second, first)

    def test_a_side_that_has_taken_its_deeds_back(self):
        write = self.history.write
        back = write(write(0, {1: 8, 2: 7}), {1: 5})
        other = write(0, {1: 9, 3: 3})
        self.check_both([(1, 9, [5, 9])], back, other)

    def test_a_side_that_has_emptied_what_it_wrote(self):
        write = self.history.write
        back = write(write(0, {3: 8, 4: 1}), {3: 0, 4: 0})
        other = write(0, {4: 9, 3: 3})
        self.check_both([(3, 3, [0, 3]), (4, 9, [0, 9])], back, other)
        emptied = write(0, {1: 0})
        self.check_both([(1, 0, [0, 5])], write(0, {1: 5}), emptied)

    def test_faults_ascend(self):
        write = self.history.write
        back = write(write(0, {40: 1, 8: 1, 33: 1, 1: 1}), {40: 0, 8: 0, 33: 0, 1: 5})
        other = write(0, {40: 4, 33: 3, 8: 8, 1: 1})
        self.check_both([(1, 1, [1, 5]), (8, 8, [0, 8]), (33, 3, [0, 3]), (40, 4, [0, 4])], back, other)

    def test_a_write_that_changes_nothing_is_a_deed(self):
        self.check_both([(2, 9, [6, 9])], self.history.write(0, {2: 6}), self.history.write(0, {2: 9, 1: 4}))

    def test_clashes_of_both_are_no_faults(self):
        self.check_both([], self.history.write(0, {1: 8}), self.history.write(0, {1: 9}))

    def test_values_that_only_one_side_wrote_are_no_faults(self):
        write = self.history.write
        self.check_both([], write(write(0, {1: 8}), {1: 5}), write(0, {2: 9}))

    def test_the_same_value_on_both_sides_is_no_fault(self):
        write = self.history.write
        self.check_both([], write(write(0, {1: 8}), {1: 5}), write(0, {1: 5}))

    def test_a_node_and_its_own_past(self):
        first = self.history.write(0, {1: 8})
        second = self.history.write(first, {1: 5})
        self.check_both([], 0, second)
        self.check_both([], second, second)

    def test_several_last_common_nodes(self):
        history = self.history
        sides = [history.write(0, {1: 7}), history.write(0, {2: 8})]
        first = history.write(history.merge(sides), {2: 8})
        second = history.write(history.merge(sides), {2: 1})
        self.check_both([(2, 1, [1, 8])], first, second)

    def test_an_open_place_is_no_fault(self):
        history = self.history
        sides = [history.write(0, {1: 7}), history.write(0, {1: 8})]
        first = history.merge(sides, answers={1: 7})
        second = history.merge(sides, answers={1: 8})
        self.check_both([], first, second)

    def test_missing_nodes(self):
        self.history.write(0, {1: 7})
        self.check_missing(self.history, value_faults, 0, 1)

    def test_random_histories(self):
        chance = random.Random(38)
        faults = 0
        for _ in range(200):
            history, (first, second) = crossing_tips(chance)
            merged = merge_over_fold(history, first, second)
            folded, open_values = fold(history, [first, second])
            expected = []
            for place in PLACES:
                found = model_found(history, [first, second], place)
                result = result_at(merged, place)
                if len(found) > 1 and result is not None:
                    expected.append((place, result, found))
                else:
                    self.assertEqual(result, None if len(found) > 1 else found[0])
                values = [history.book(node).get(place, 0) for node in (first, second)]
                told = place not in open_values and written_on_both_sides(history, first, second, place) \
                    and values[0] != values[1] and folded.get(place, 0) in values
                self.assertEqual(told, place in [fault[0] for fault in expected])
            self.check_on(history, expected, value_faults, first, second)
            faults += len(expected)
        self.assertGreater(faults, 20)


class BaseFaultsTest(HistoryCase):
    def setUp(self):
        """The nodes 1 and 2, which are merged by merges that cross."""
        self.history = History(RuleBook([]), {4: 4})
        self.history.write(0, {1: 5})
        self.history.write(0, {2: 6})

    def test_the_example_of_the_document(self):
        history = self.history
        first = history.merge([1, 2])
        second = history.write(history.merge([1, 2]), {2: 0})
        self.check_on(history, [1, 2], last_common, [first, second])
        self.check_on(history, [(2, "back", 6)], base_faults, first, second, 1)
        self.check_on(history, [], base_faults, first, second, 2)
        self.check_on(history, [(2, "back", 6)], base_faults, second, first, 1)

    def test_a_back_to_the_empty_place(self):
        history = self.history
        history.write(1, {4: 0})
        first = history.merge([3, 2])
        second = history.write(history.merge([3, 2]), {4: 4, 1: 1})
        self.check_on(history, [(1, "stop", None), (4, "back", 0)], base_faults, first, second, 2)
        self.check_on(history, [], base_faults, first, second, 3)

    def test_a_stop(self):
        history = self.history
        first = history.write(history.merge([1, 2]), {1: 9})
        second = history.write(history.merge([1, 2]), {4: 8})
        self.check_on(history, [(1, "stop", None)], base_faults, first, second, 2)
        self.check_on(history, [], base_faults, first, second, 1)

    def test_faults_ascend(self):
        history = self.history
        sides = [history.write(0, {40: 1, 8: 1, 33: 1, 3: 1}), history.write(0, {41: 1})]
        first = history.merge(sides)
        second = history.write(history.merge(sides), {40: 0, 8: 0, 33: 2, 3: 0})
        self.check_on(history, [(3, "back", 1), (8, "back", 1), (33, "stop", None), (40, "back", 1)],
                      base_faults, first, second, sides[1])

    def test_a_silent_one(self):
        history = self.history
        sides = [history.write(0, {7: 1}), history.write(0, {7: 2})]
        first = history.merge(sides, answers={7: 2})
        second = history.merge(sides, answers={7: 9})
        self.check_on(history, [(7, "silent", 9)], base_faults, first, second, sides[1])
        self.check_on(history, [], base_faults, first, second, sides[0])
        third = history.merge(sides, answers={7: 1})
        fourth = history.merge(sides, answers={7: 0})
        self.check_on(history, [(7, "silent", 0)], base_faults, fourth, third, sides[0])

    def test_a_silent_one_although_the_fold_is_not_open(self):
        history = self.history
        first = history.write(history.merge([1, 2]), {1: 0})
        second = history.write(history.merge([1, 2]), {1: 8})
        # Over the book of node 2, in which place 1 is empty, only the second side seems to have changed it.
        self.check_on(history, [(1, "silent", 8)], base_faults, first, second, 2)

    def test_one_last_common_node(self):
        self.check_on(self.history, [], base_faults, 1, 2, 0)
        self.check_on(self.history, [], base_faults, 1, 1, 1)
        self.check_on(self.history, [], base_faults, 0, 2, 0)

    def test_not_common(self):
        history = self.history
        first, second = history.merge([1, 2]), history.merge([1, 2])
        for base in (0, first, second):
            self.refuse_on(history, NotCommon, {"base": base}, base_faults, history, first, second, base)
        self.refuse_on(history, NotCommon, {"base": 2}, base_faults, history, 1, 2, 2)

    def test_missing_nodes(self):
        self.check_missing(self.history, base_faults, 1, 2, 0)
        self.check_missing(self.history, base_faults, 1, 2, 2)
        self.refuse_on(self.history, NoNode, {"node": -1}, base_faults, self.history, 1, 2, -1)

    def test_random_histories(self):
        chance = random.Random(39)
        words = []
        for _ in range(250):
            history, (first, second) = crossing_tips(chance)
            over_fold = merge_over_fold(history, first, second)
            for base in history:
                if base not in model_common(history, [first, second]):
                    fields = {"base": base}
                    self.refuse_on(history, NotCommon, fields, base_faults, history, first, second, base)
                    continue
                over_base = value_merge(history.book(base), [], history.book(first), history.book(second))
                expected = []
                for place in PLACES:
                    result, right = result_at(over_base, place), result_at(over_fold, place)
                    if result != right:
                        word = "stop" if result is None else "silent" if right is None else "back"
                        expected.append((place, word, result))
                self.check_on(history, expected, base_faults, first, second, base)
                words.extend(word for _, word, _ in expected)
        self.assertGreater(min(words.count(word) for word in ("back", "stop", "silent")), 3)


class UnservedTest(HistoryCase):
    def check_shown(self, history, nodes, base):
        """Check a result by the words of the point, also with two books that show it."""
        folded, open_values = fold(history, nodes)
        book = history.book(base)
        differing = [place for place in sorted({*folded, *book, *open_values})
                     if place in open_values or folded.get(place, 0) != book.get(place, 0)]
        result = unserved(history, nodes, base)
        self.check_on(history, result, unserved, nodes, base)
        if not differing:
            self.assertIsNone(result)
            return result
        place = differing[0]
        value = book.get(place, 0)
        self.assertEqual(result, (place, value, value + 1) if place in open_values
                         else (place, folded.get(place, 0), value))
        shown = [{place: number} if number else {} for number in result[1:]]
        for first, second in (shown, shown[::-1]):
            over_fold = result_at(value_merge(folded, sorted(open_values), first, second), place)
            self.assertNotEqual(over_fold, result_at(value_merge(book, [], first, second), place))
        return result

    def setUp(self):
        self.history = History(RuleBook([]), {4: 4})
        self.history.write(0, {1: 5, 4: 0})
        self.history.write(0, {2: 6})

    def test_one_last_common_node_serves(self):
        for nodes, base in (([1, 2], 0), ([1], 1), ([2, 0], 0), ([2, 2, 2], 2)):
            self.assertIsNone(self.check_shown(self.history, nodes, base))

    def test_a_place_at_which_the_books_differ(self):
        history = self.history
        nodes = [history.merge([1, 2]), history.merge([1, 2])]
        self.assertEqual(self.check_shown(history, nodes, 1), (2, 6, 0))
        self.assertEqual(self.check_shown(history, nodes, 2), (1, 5, 0))

    def test_a_place_that_the_fold_has_empty(self):
        history = self.history
        history.write(0, {4: 0})
        nodes = [history.merge([2, 3]), history.merge([2, 3])]
        self.assertEqual(self.check_shown(history, nodes, 2), (4, 0, 4))

    def test_an_open_place(self):
        history = self.history
        history.write(0, {1: 8, 0: 0})
        nodes = [history.merge([1, 3], answers={1: 1}), history.merge([1, 3], answers={1: 1})]
        self.assertEqual(self.check_shown(history, nodes, 1), (1, 5, 6))
        self.assertEqual(self.check_shown(history, nodes, 3), (1, 8, 9))

    def test_an_open_place_that_is_empty_in_the_base(self):
        history = self.history
        sides = [history.write(0, {3: 0}), history.write(0, {3: 1})]
        nodes = [history.merge(sides, answers={3: 0}), history.merge(sides, answers={3: 1})]
        self.assertEqual(self.check_shown(history, nodes, sides[0]), (3, 0, 1))
        self.assertEqual(self.check_shown(history, nodes, sides[1]), (3, 1, 2))

    def test_the_lowest_place(self):
        history = self.history
        sides = [history.write(0, {3: 7, 9: 1}), history.write(0, {3: 8, 1: 1})]
        nodes = [history.merge(sides, answers={3: 0}), history.merge(sides, answers={3: 1})]
        self.assertEqual(self.check_shown(history, nodes, sides[0]), (1, 1, 0))
        self.assertEqual(self.check_shown(history, nodes, sides[1]), (3, 8, 9))

    def test_a_base_with_the_book_of_the_fold(self):
        history = self.history
        sides = [history.write(0, {3: 7}), history.write(0, {3: 7})]
        nodes = [history.merge(sides), history.merge(sides)]
        self.assertEqual(last_common(history, nodes), sides)
        self.assertIsNone(self.check_shown(history, nodes, sides[0]))

    def test_not_common(self):
        history = self.history
        nodes = [history.merge([1, 2]), history.merge([1, 2])]
        for base in (0, *nodes):
            self.refuse_on(history, NotCommon, {"base": base}, unserved, history, nodes, base)

    def test_missing_nodes(self):
        self.check_missing(self.history, unserved, [1, 2], 0)
        self.check_missing(self.history, unserved, [1, 2, 1], 2)

    def test_random_histories(self):
        chance = random.Random(40)
        shown = 0
        for _ in range(200):
            history, nodes = crossing_tips(chance)
            nodes = nodes + some_nodes(chance, history, 1) * chance.randint(0, 1)
            for base in model_common(history, nodes):
                shown += self.check_shown(history, nodes, base) is not None
        self.assertGreater(shown, 50)


if __name__ == "__main__":
    unittest.main()
