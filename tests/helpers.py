"""What several test files need: calls that are watched, and all books and marks of a small world."""

import unittest
from copy import deepcopy
from itertools import permutations, product

from forkedshelves.errors import ShelfError

CONTAINERS = (list, dict, tuple)


def plain_copies(args):
    """Copies of the arguments that are lists, dicts or tuples of plain values; objects stay as they are."""
    return [deepcopy(arg) if is_plain(arg) else arg for arg in args]


def is_plain(value):
    if isinstance(value, dict):
        return all(is_plain(part) for part in [*value, *value.values()])
    if isinstance(value, (list, tuple)):
        return all(is_plain(part) for part in value)
    return value is None or isinstance(value, (int, str))


def spoil(value):
    """Change every list and dict in a value, at every depth."""
    parts = list(value.values()) if isinstance(value, dict) else list(value) if isinstance(value, CONTAINERS) else []
    for part in parts:
        spoil(part)
    if isinstance(value, list):
        value.append("spoiled")
    if isinstance(value, dict):
        value["spoiled"] = "spoiled"


class WatchedCase(unittest.TestCase):
    """Test cases that call functions and watch what happens to arguments and results."""

    def call(self, function, *args):
        """Call a function, and check that it leaves its arguments alone."""
        before = plain_copies(args)
        result = function(*args)
        self.assertEqual(plain_copies(args), before, "an argument was modified")
        return result

    def check(self, expected, function, *args):
        """Check the result, its kind, and that changing it has no effect on a later call."""
        result = self.call(function, *args)
        self.assertEqual(result, expected)
        self.assertIs(type(result), type(expected))
        self.check_new(function, *args)

    def check_new(self, function, *args):
        """Check that spoiling a result changes neither an argument nor a later result."""
        before = plain_copies(args)
        result = function(*args)
        expected = deepcopy(result)
        spoil(result)
        self.assertEqual(plain_copies(args), before, "the result shares something with an argument")
        self.assertEqual(function(*args), expected, "the result shares something with a later one")

    def refuse(self, error, fields, function, *args):
        """Check that a call raises exactly this error with these fields, and leaves its arguments alone."""
        before = plain_copies(args)
        with self.assertRaises(ShelfError) as caught:
            function(*args)
        self.assertIs(type(caught.exception), error)
        self.assertEqual({name: getattr(caught.exception, name) for name in fields}, fields)
        self.assertEqual(plain_copies(args), before, "an argument was modified")
        return caught.exception


def all_books(places, values):
    """All books that give the places values of a list, which may contain 0."""
    for chosen in product(values, repeat=len(places)):
        yield {place: value for place, value in zip(places, chosen) if value > 0}


def all_marks(places, values):
    """All ascending tuples of marks of different places with these values, the empty one included."""
    for chosen in product([None, *values], repeat=len(places)):
        yield tuple(sorted((place, value) for place, value in zip(places, chosen) if value is not None))


def shuffles(marks):
    """All orders of marks other than the ascending one."""
    return [order for order in permutations(marks) if list(order) != sorted(order)]


def held(book, marks):
    return all(book.get(place, 0) == value for place, value in marks)


def in_order(bars):
    """Bars in the order of point 7."""
    return sorted(bars, key=lambda bar: (len(bar), bar))
