"""Kinds of rules that add up values or count places."""

from itertools import combinations

from forkedshelves.books import value_at
from forkedshelves.errors import BadBound
from forkedshelves.marks import check_places, empty_marks, filled_marks, first_bar, in_bar_order


def _are_marks_of(places, marks):
    """Tell whether the marks are in the order of a bar and all at the places."""
    return in_bar_order(marks) and all(mark[0] in places for mark in marks)


class Total:
    """The sum of the values is not above a bound."""

    def __init__(self, places, high):
        check_places(places)
        if high < 0:
            raise BadBound(high)
        self.places = tuple(places)
        self.width = min(len(self.places), high + 1)
        self._high = high

    def is_bar(self, marks):
        """Tell whether the marks are a bar of the rule."""
        if not marks or not _are_marks_of(self.places, marks):
            return False
        # Without its least mark a bar keeps the largest sum; and that is less only if no mark has the value 0.
        values = [value for _, value in marks]
        return sum(values) > self._high >= sum(values) - min(values)

    def bars_in(self, book):
        """Return the bars that the book holds, in their order."""
        if self.keeps(book):
            return []
        marks = filled_marks(book, self.places)
        bars = []
        for size in range(1, len(marks) + 1):
            bars.extend([chosen for chosen in combinations(marks, size) if self.is_bar(chosen)])
        return bars

    def reason(self, book):
        """Return the first bar that the book holds, or None."""
        return first_bar(self.bars_in(book))

    def keeps(self, book):
        """Tell whether the book keeps the rule."""
        return sum([value_at(book, place) for place in self.places]) <= self._high

    def tight_base(self, bar):
        """Return a tight base of a bar: with a part of the bar alone, the sum is not above the bound."""
        return {}


class AtMost:
    """No more than so many of the places are not empty."""

    def __init__(self, places, many):
        check_places(places)
        if many < 0:
            raise BadBound(many)
        self.places = tuple(places)
        self.width = many + 1 if many < len(self.places) else 0
        self._many = many

    def is_bar(self, marks):
        """Tell whether the marks are a bar of the rule."""
        if len(marks) != self._many + 1 or not _are_marks_of(self.places, marks):
            return False
        return all(value > 0 for _, value in marks)

    def bars_in(self, book):
        """Return the bars that the book holds, in their order."""
        marks = filled_marks(book, self.places)
        return list(combinations(marks, int(self._many) + 1))

    def reason(self, book):
        """Return the first bar that the book holds, or None."""
        if self.keeps(book):
            return None
        return tuple(filled_marks(book, self.places)[:self._many + 1])

    def keeps(self, book):
        """Tell whether the book keeps the rule."""
        return len(filled_marks(book, self.places)) <= self._many

    def tight_base(self, bar):
        """Return a tight base of a bar: with a part of the bar alone, few enough places are not empty."""
        return {}


class AtLeast:
    """No fewer than so many of the places are not empty."""

    def __init__(self, places, many):
        check_places(places)
        if many < 0 or many > len(places):
            raise BadBound(many)
        self.places = tuple(places)
        # If many is 0, a bar would need more places than there are, so there is none.
        self._size = len(self.places) - many + 1
        self.width = self._size if many > 0 else 0

    def is_bar(self, marks):
        """Tell whether the marks are a bar of the rule."""
        if len(marks) != self._size or not _are_marks_of(self.places, marks):
            return False
        return all(value == 0 for _, value in marks)

    def bars_in(self, book):
        """Return the bars that the book holds, in their order."""
        marks = empty_marks(book, self.places)
        return list(combinations(marks, int(self._size)))

    def reason(self, book):
        """Return the first bar that the book holds, or None."""
        if self.keeps(book):
            return None
        return tuple(empty_marks(book, self.places)[:self._size])

    def keeps(self, book):
        """Tell whether the book keeps the rule."""
        return len(empty_marks(book, self.places)) < self._size

    def tight_base(self, bar):
        """Return a tight base of a bar: all places are filled, so a part of the bar empties few enough."""
        return {place: 1 for place in self.places}
