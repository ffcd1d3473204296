"""What goes wrong when nodes are merged by the values of their books alone."""

from forkedshelves.books import changes, value_at
from forkedshelves.errors import NotCommon
from forkedshelves.folds import fold, last_common, value_merge
from forkedshelves.found import found_by_place
from forkedshelves.graph import check_nodes


def value_faults(history, first, second):
    """Return (place, value, found) for each place with several found values at which values alone do not clash."""
    merged, clashing = _merge_over_fold(history, first, second)
    found = found_by_place(history, [first, second])
    several = [place for place in sorted(found) if len(found[place]) > 1]
    return [(place, value_at(merged, place), found[place]) for place in several if place not in clashing]


def base_faults(history, first, second, base):
    """Return (place, word, value) for each place at which a merge over one common node is not that over the fold."""
    check_nodes(history, [first, second, base])
    _check_common(history, [first, second], base)
    merged, clashing = value_merge(history.book(base), [], history.book(first), history.book(second))
    expected, stopping = _merge_over_fold(history, first, second)
    faults = []
    for place in sorted(set(merged) | set(clashing) | set(expected) | set(stopping)):
        if place in clashing:
            if place not in stopping:
                faults.append((place, "stop", None))
        elif place in stopping:
            faults.append((place, "silent", value_at(merged, place)))
        elif value_at(merged, place) != value_at(expected, place):
            faults.append((place, "back", value_at(merged, place)))
    return faults


def unserved(history, nodes, base):
    """Return (place, x, y) if a common node does not serve as well as the fold, or None if it does."""
    check_nodes(history, [*nodes, base])
    _check_common(history, nodes, base)
    book = history.book(base)
    folded, open_values = fold(history, nodes)
    places = sorted(set(open_values) | set(changes(book, folded)))
    if not places:
        return None
    place = places[0]
    value = value_at(book, place)
    if place in open_values:
        return place, value, value + 1
    return place, value_at(folded, place), value


def _check_common(history, nodes, base):
    """Raise NotCommon unless the base is a last common node of the nodes."""
    if base not in last_common(history, nodes):
        raise NotCommon(base)


def _merge_over_fold(history, first, second):
    """Return the value merge of two nodes over their fold."""
    folded, open_values = fold(history, [first, second])
    return value_merge(folded, list(open_values), history.book(first), history.book(second))
