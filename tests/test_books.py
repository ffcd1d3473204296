"""Points 5 and 6."""

import unittest

from forkedshelves.books import changes, holds, value_at, with_writes
from tests.helpers import WatchedCase, all_books


class BooksTest(WatchedCase):
    def test_value_at(self):
        self.check(5, value_at, {1: 5}, 1)
        self.check(0, value_at, {1: 5}, 2)
        self.check(0, value_at, {}, 0)
        self.check(9999, value_at, {0: 9999, 255: 1}, 0)

    def test_with_writes_writes_each_place_and_keeps_the_others(self):
        self.check({1: 5, 2: 7, 3: 8}, with_writes, {1: 5, 2: 6}, {2: 7, 3: 8})

    def test_with_writes_of_0_empties_a_place(self):
        self.check({2: 6}, with_writes, {1: 5, 2: 6}, {1: 0})
        self.check({}, with_writes, {1: 5}, {1: 0, 2: 0})

    def test_with_writes_that_change_nothing(self):
        self.check({1: 5}, with_writes, {1: 5}, {})
        self.check({1: 5}, with_writes, {1: 5}, {1: 5})
        self.check({1: 5}, with_writes, {1: 5}, {2: 0})
        self.check({}, with_writes, {}, {})

    def test_with_writes_returns_another_book(self):
        book, writes = {1: 5}, {2: 6}
        self.assertIsNot(with_writes(book, {}), book)
        self.assertIsNot(with_writes({}, writes), writes)

    def test_changes_lists_only_places_that_differ(self):
        self.check({1: 0, 2: 7, 4: 9}, changes, {1: 5, 2: 6, 3: 8}, {2: 7, 3: 8, 4: 9})
        self.check({}, changes, {1: 5}, {1: 5})
        self.check({}, changes, {}, {})
        self.check({1: 5}, changes, {}, {1: 5})
        self.check({1: 0}, changes, {1: 5}, {})

    def test_changes_lead_from_one_book_to_the_other(self):
        books = list(all_books([0, 1, 2], [0, 1, 2]))
        for base in books:
            for book in books:
                writes = changes(base, book)
                self.assertEqual(with_writes(base, writes), book)
                self.assertEqual(sorted(writes), [at for at in range(3) if base.get(at, 0) != book.get(at, 0)])

    def test_holds(self):
        self.check(True, holds, {1: 5, 2: 6}, [(1, 5)])
        self.check(True, holds, {1: 5, 2: 6}, [(2, 6), (1, 5)])
        self.check(False, holds, {1: 5, 2: 6}, [(1, 5), (2, 5)])
        self.check(False, holds, {1: 5, 2: 6}, [(2, 5), (1, 5)])
        self.check(False, holds, {1: 5}, [(3, 5)])

    def test_holds_of_the_value_0(self):
        self.check(True, holds, {1: 5}, [(2, 0)])
        self.check(False, holds, {1: 5}, [(1, 0)])
        self.check(True, holds, {}, [(0, 0), (255, 0)])

    def test_holds_of_no_marks_of_a_list_and_of_a_tuple(self):
        self.check(True, holds, {}, [])
        self.check(True, holds, {1: 5}, ())
        self.check(True, holds, {1: 5}, ((1, 5), (2, 0)))
        self.check(False, holds, {1: 5}, ((1, 5), (2, 1)))

    def test_holds_of_two_marks_of_one_place(self):
        self.check(False, holds, {1: 5}, [(1, 5), (1, 6)])
        self.check(False, holds, {1: 5}, [(1, 0), (1, 5)])
        self.check(True, holds, {1: 5}, [(1, 5), (1, 5)])


if __name__ == "__main__":
    unittest.main()
