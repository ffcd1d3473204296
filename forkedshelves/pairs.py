"""Kinds of rules whose bars have two marks."""

from itertools import combinations

from forkedshelves.books import value_at
from forkedshelves.errors import EmptyChoice, RepeatedPlace
from forkedshelves.marks import are_marks_at, check_places, filled_marks, first_bar
from forkedshelves.marks import in_bar_order, marks_at, shorter_first


class Apart:
    """No two of the places have the same value above 0."""

    def __init__(self, places):
        check_places(places)
        self.places = tuple(places)
        self.width = 2 if len(self.places) > 1 else 0

    def is_bar(self, marks):
        """Tell whether the marks are a bar of the rule."""
        if len(marks) != 2 or not in_bar_order(marks):
            return False
        (first, value), (second, other) = marks
        return first in self.places and second in self.places and value == other and value > 0

    def bars_in(self, book):
        """Return the bars that the book holds, in their order."""
        marks = filled_marks(book, self.places)
        return [pair for pair in combinations(marks, 2) if pair[0][1] == pair[1][1]]

    def reason(self, book):
        """Return the first bar that the book holds, or None."""
        return first_bar(self.bars_in(book))

    def keeps(self, book):
        """Tell whether the book keeps the rule."""
        held = [mark[1] for mark in filled_marks(book, self.places)]
        return len(set(held)) == len(held)

    def tight_base(self, bar):
        """Return a tight base of a bar: where only a part of the bar is written, no two values meet."""
        return {}


class Needs:
    """For each pair, if its first place is not empty, its second one is not empty."""

    def __init__(self, pairs):
        for first, second in pairs:
            if first == second:
                raise RepeatedPlace(first)
        # A dict keeps the order of first occurrence and drops what comes again.
        self._pairs = {(first, second): True for first, second in pairs}
        self.places = tuple({place: True for pair in self._pairs for place in pair})
        self.width = 2 if self._pairs else 0

    def is_bar(self, marks):
        """Tell whether the marks are a bar of the rule."""
        if len(marks) != 2 or not in_bar_order(marks):
            return False
        (first, value), (second, other) = marks
        if other == 0:
            return value > 0 and (first, second) in self._pairs
        return value == 0 and (second, first) in self._pairs

    def bars_in(self, book):
        """Return the bars that the book holds, in their order."""
        broken = [pair for pair in self._pairs if value_at(book, pair[0]) > 0 and value_at(book, pair[1]) == 0]
        return shorter_first([tuple(marks_at(book, pair)) for pair in broken])

    def reason(self, book):
        """Return the first bar that the book holds, or None."""
        return first_bar(self.bars_in(book))

    def keeps(self, book):
        """Tell whether the book keeps the rule."""
        return all(value_at(book, first) == 0 or value_at(book, second) > 0 for first, second in self._pairs)

    def tight_base(self, bar):
        """Return a tight base of a bar, or None if there is none.

        Whatever the filled place of the bar needs is filled in every tight base, so nothing of it
        may need the emptied place, and the filled place must not be among it.
        """
        filled = [place for place, value in bar if value > 0][0]
        emptied = [place for place, value in bar if value == 0][0]
        needed = self._needed_places(filled)
        if filled in needed or any((place, emptied) in self._pairs for place in needed):
            return None
        return {place: 1 for place in needed}

    def _needed_places(self, place):
        """Return the places that a place needs by a pair, those that these need, and so on."""
        needed = []
        waiting = [place]
        while waiting:
            current = waiting.pop()
            for first, second in self._pairs:
                if first == current and second not in needed:
                    needed.append(second)
                    waiting.append(second)
        return needed


class Match:
    """If the first place has one of the values, the second place has one of the allowed values."""

    def __init__(self, first, values, second, allowed):
        check_places([first, second])
        if not allowed:
            raise EmptyChoice()
        self.places = (first, second)
        self.width = 2 if values else 0
        self._values = list(values)
        self._allowed = list(allowed)

    def is_bar(self, marks):
        """Tell whether the marks are a bar of the rule."""
        return are_marks_at(marks, self.places) and not self.keeps(dict(marks))

    def bars_in(self, book):
        """Return the bars that the book holds, in their order."""
        return [] if self.keeps(book) else [tuple(marks_at(book, self.places))]

    def reason(self, book):
        """Return the first bar that the book holds, or None."""
        return first_bar(self.bars_in(book))

    def keeps(self, book):
        """Tell whether the book keeps the rule."""
        first, second = self.places
        return value_at(book, first) not in self._values or value_at(book, second) in self._allowed

    def tight_base(self, bar):
        """Return a tight base of a bar: a first value that asks for nothing, and an allowed second one."""
        first, second = self.places
        value = 0
        while value in self._values:
            value += 1
        base = {first: value, second: min(self._allowed)}
        return {place: base[place] for place in base if base[place] > 0}


class Order:
    """If both places are not empty, the second value is above the first one by at least the gap."""

    def __init__(self, first, second, gap):
        check_places([first, second])
        self.places = (first, second)
        self.width = 2
        self._gap = gap

    def is_bar(self, marks):
        """Tell whether the marks are a bar of the rule."""
        return are_marks_at(marks, self.places) and not self.keeps(dict(marks))

    def bars_in(self, book):
        """Return the bars that the book holds, in their order."""
        return [] if self.keeps(book) else [tuple(marks_at(book, self.places))]

    def reason(self, book):
        """Return the first bar that the book holds, or None."""
        return first_bar(self.bars_in(book))

    def keeps(self, book):
        """Tell whether the book keeps the rule."""
        first, second = [value_at(book, place) for place in self.places]
        return first == 0 or second == 0 or second - first >= self._gap

    def tight_base(self, bar):
        """Return a tight base of a bar: where only one place is written, the other one is empty."""
        return {}
