"""Common states: the last common nodes, their fold, and merges of books by their values alone."""

from forkedshelves.books import value_at
from forkedshelves.found import found_by_place, single_book
from forkedshelves.graph import check_nodes, latest


def last_common(history, nodes):
    """Return the ascending list of the last common nodes."""
    check_nodes(history, nodes)
    common = [node for node in history.past_of(nodes) if all(history.knows(entry, node) for entry in nodes)]
    return latest(history, common)


def fold(history, nodes):
    """Return the book of the last common nodes, and the found values of the places at which it is open."""
    found = found_by_place(history, last_common(history, nodes))
    return single_book(found), {place: found[place] for place in found if len(found[place]) > 1}


def value_merge(base, open_places, first, second):
    """Merge two books by their values over a base, and return the book and the places that clash."""
    merged = {}
    clashing = []
    for place in sorted(set(base) | set(first) | set(second)):
        origin, left, right = [value_at(book, place) for book in (base, first, second)]
        is_closed = place not in open_places
        if left == right or (is_closed and right == origin):
            merged[place] = left
        elif is_closed and left == origin:
            merged[place] = right
        else:
            clashing.append(place)
    return {place: merged[place] for place in merged if merged[place] > 0}, clashing
