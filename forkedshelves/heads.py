"""What a list of nodes of a history shows: its past, heads, found values and merged book."""

from forkedshelves.found import clash_in, clean_book, found_by_place, heads_by_place, values_of
from forkedshelves.graph import check_nodes


def past(history, nodes):
    """Return the ascending list of the nodes in the past of some nodes."""
    check_nodes(history, nodes)
    return history.past_of(nodes)


def heads(history, nodes, place):
    """Return the ascending list of the heads of a place in a list of nodes."""
    check_nodes(history, nodes)
    return heads_by_place(history, nodes).get(place, [0])


def found_values(history, nodes, place):
    """Return the ascending list of the values that the heads of a place write."""
    return values_of(history, heads(history, nodes, place), place)


def clash_of(history, nodes):
    """Return ("place", place, found) or ("rule", key, bar) if the list of nodes is not clean, or None."""
    check_nodes(history, nodes)
    return clash_in(history.rulebook, found_by_place(history, nodes))


def merged_book(history, nodes):
    """Return the book of a clean list of nodes."""
    check_nodes(history, nodes)
    return clean_book(history.rulebook, found_by_place(history, nodes))
