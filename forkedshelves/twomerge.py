"""Merging two books over a third one, and which side holds what of a bar."""

from forkedshelves.books import holds, value_at
from forkedshelves.errors import PlaceClash, RuleClash
from forkedshelves.folds import value_merge
from forkedshelves.lawful import check_lawful


def merge_two(rulebook, base, first, second):
    """Return the merged book of two lawful books over a lawful base."""
    for book in (base, first, second):
        check_lawful(rulebook, book)
    merged, clashing = value_merge(base, [], first, second)
    if clashing:
        place = clashing[0]
        raise PlaceClash(place, sorted([value_at(first, place), value_at(second, place)]))
    broken = rulebook.reason(merged)
    if broken is not None:
        key, bar = broken
        raise RuleClash(key, bar)
    return merged


def sides(first, second, bar):
    """Return the marks of a bar that only the first book holds, that only the second one holds, and that both hold."""
    left = [mark for mark in bar if holds(first, [mark])]
    right = [mark for mark in bar if holds(second, [mark])]
    only_left = [mark for mark in left if mark not in right]
    only_right = [mark for mark in right if mark not in left]
    return only_left, only_right, [mark for mark in left if mark in right]
