"""What the kinds of rules share: places that are passed, marks of a book, and the order of bars."""

from forkedshelves.books import value_at
from forkedshelves.errors import RepeatedPlace


def check_places(places):
    """Raise RepeatedPlace for the first place that occurs earlier."""
    seen = set()
    for place in places:
        if place in seen:
            raise RepeatedPlace(place)
        seen.add(place)


def in_bar_order(marks):
    """Tell whether the marks are in ascending order and no two have the same place."""
    return all(first[0] < second[0] for first, second in zip(marks, marks[1:]))


def are_marks_at(marks, places):
    """Tell whether the marks are one for each of the places, in ascending order."""
    return [place for place, _ in marks] == sorted(places)


def marks_at(book, places):
    """Return the ascending list of the marks that the book holds at the places."""
    return [(place, value_at(book, place)) for place in sorted(places)]


def filled_marks(book, places):
    """Return the ascending list of the marks with values above 0 that the book holds at the places."""
    return [mark for mark in marks_at(book, places) if mark[1] > 0]


def empty_marks(book, places):
    """Return the ascending list of the marks with the value 0 that the book holds at the places."""
    return [mark for mark in marks_at(book, places) if mark[1] == 0]


def shorter_first(bars):
    """Return the bars in their order: by the number of marks, then as tuples compare."""
    return sorted(bars, key=lambda bar: (len(bar), bar))


def first_bar(bars):
    """Return the first one of a list of bars, or None if there is none."""
    return bars[0] if bars else None
