"""Forks of a base, and the parts into which their changes can be divided."""

from forkedshelves.books import changes, value_at, with_writes
from forkedshelves.errors import NotChanged, TooWide
from forkedshelves.lawful import check_lawful
from forkedshelves.reach import reached


class Part:
    """Some changed places of a fork, with all that their changes need."""

    def __init__(self, origin, places):
        self.origin = origin
        self.places = tuple(places)

    def book(self):
        """Return the base of the fork with the changes of the places."""
        return self.origin.book_with(self.places)

    def within(self, other):
        """Tell whether every place is in another part of the same fork."""
        return all(place in other.places for place in self.places)

    def __or__(self, other):
        """Return the union with another part of the same fork."""
        return Part(self.origin, sorted(set(self.places) | set(other.places)))

    def __and__(self, other):
        """Return the intersection with another part of the same fork."""
        return Part(self.origin, [place for place in self.places if place in other.places])

    def __contains__(self, place):
        """Tell whether the part has the place."""
        return place in self.places

    def __iter__(self):
        """Go over the places in ascending order."""
        return iter(self.places)


class Fork:
    """A book together with the base from which it was forked."""

    def __init__(self, rulebook, base, book):
        key = rulebook.wide_key()
        if key is not None:
            raise TooWide(key)
        check_lawful(rulebook, base)
        check_lawful(rulebook, book)
        self.rulebook = rulebook
        self._base = dict(base)
        self._changes = changes(base, book)
        self.places = tuple(sorted(self._changes))
        followers = {place: self._followers(place) for place in self.places}
        self._pairs = [(place, other) for place in self.places for other in followers[place]]
        # For each changed place the places of the smallest part that contains it.
        self._smallest = {place: reached(place, followers) for place in self.places}

    def needs(self):
        """Return the ascending list of the pairs of places of which the first one's change needs the second one's."""
        return list(self._pairs)

    def part(self, places):
        """Return the smallest part that contains some changed places."""
        self._check_changed(places)
        return Part(self, sorted({needed for place in places for needed in self._smallest[place]}))

    def inside(self, places):
        """Return the largest part that contains only some changed places."""
        self._check_changed(places)
        return Part(self, [place for place in self.places if self._is_inside(place, places)])

    def whole(self):
        """Return the part of all changed places."""
        return Part(self, self.places)

    def all_parts(self):
        """Return all parts, those with fewer places first, then as their tuples compare."""
        # Every part is the union of the smallest parts of its places.
        found = {(): True}
        for place in self.places:
            for places in list(found):
                found[tuple(sorted(set(places) | set(self._smallest[place])))] = True
        ordered = sorted(found, key=lambda row: (len(row), row))
        return [Part(self, places) for places in ordered]

    def road(self):
        """Return the classes of places that need each other fully, each after all that it needs."""
        rows = []
        placed = []
        while len(placed) < len(self.places):
            row = [place for place in self.places if self._is_next(place, placed)]
            row = [place for place in row if place in self._smallest[row[0]]]
            rows.append(row)
            placed.extend(row)
        return rows

    def mark(self, place):
        """Return the mark of a changed place in the book of the fork."""
        return place, self._changes[place]

    def changes_at(self, places):
        """Return the writes that change some changed places."""
        return {place: self._changes[place] for place in places}

    def book_with(self, places):
        """Return the base with the changes of some changed places."""
        return with_writes(self._base, self.changes_at(places))

    def _followers(self, place):
        """Return the ascending list of the places whose changes the change of a place needs."""
        mark = self.mark(place)
        others = [other for other in self.places if other != place]
        return [other for other in others if self.rulebook.bars_with(mark, (other, value_at(self._base, other)))]

    def _check_changed(self, places):
        """Raise NotChanged for the first one of the places that is not changed."""
        for place in places:
            if place not in self._changes:
                raise NotChanged(place)

    def _is_inside(self, place, places):
        """Tell whether the places contain the smallest part that contains a place."""
        return all(needed in places for needed in self._smallest[place])

    def _is_next(self, place, placed):
        """Tell whether a place is not placed, but all that it needs without being needed by that in turn."""
        if place in placed:
            return False
        return all(needed in placed or place in self._smallest[needed] for needed in self._smallest[place])
