"""The kind of rules that forbids rings of parents."""

from forkedshelves.books import value_at
from forkedshelves.marks import check_places, first_bar, marks_at, shorter_first


class Nest:
    """The value of a place is the number of its parent, and no place is an ancestor of itself."""

    def __init__(self, places):
        check_places(places)
        self.places = tuple(places)
        self.width = len(self.places)

    def is_bar(self, marks):
        """Tell whether the marks are a bar of the rule."""
        # The ring that the marks make has its own marks in order, so marks in another order differ from it.
        return len(marks) > 0 and self._ring(dict(marks), marks[0][0]) == marks

    def bars_in(self, book):
        """Return the bars that the book holds, in their order."""
        rings = [self._ring(book, place) for place in self.places]
        # Each place of a ring leads to the same ring; a dict keeps it once.
        return shorter_first(list({ring: True for ring in rings if ring is not None}))

    def reason(self, book):
        """Return the first bar that the book holds, or None."""
        return first_bar(self.bars_in(book))

    def keeps(self, book):
        """Tell whether the book keeps the rule."""
        return all(self._ring(book, place) is None for place in self.places)

    def tight_base(self, bar):
        """Return a tight base of a bar: a part of a ring alone is no ring."""
        return {}

    def _ring(self, book, place):
        """Return the ring of parents through a place as a bar, or None if there is none."""
        visited = []
        current = place
        while current is not None and current not in visited:
            visited.append(current)
            current = self._parent(value_at(book, current))
        return tuple(marks_at(book, visited)) if current == place else None

    def _parent(self, number):
        """Return the place with this number, or None."""
        return self.places[number - 1] if 0 < number <= len(self.places) else None
