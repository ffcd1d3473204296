"""Papers, which show why statements about a history hold."""

from forkedshelves.books import value_at
from forkedshelves.cleanorder import stuck_family
from forkedshelves.found import heads_by_place
from forkedshelves.heads import clash_of
from forkedshelves.orders import parting_places, two_orders


def paper_of(history, nodes):
    """Return the paper that shows that a list of nodes is clean, or why it is not."""
    clash = clash_of(history, nodes)
    by_place = heads_by_place(history, nodes)
    if clash is None:
        return "clean", [(place, tuple(by_place[place])) for place in _later_places(history, nodes)]
    word, where, what = clash
    if word == "place":
        first, second = _parted_heads(history, by_place[where], where)
        return "place", where, first, second
    # No place has several found values here, so any head of a place writes the value of the mark.
    return "rule", where, what, tuple([by_place.get(place, [0])[0] for place, _ in what])


def orders_paper(history, tips):
    """Return the paper that shows that two orders of some tips end differently, or None."""
    orders = two_orders(history, tips)
    if orders is None:
        return None
    first, second = orders
    return "orders", tuple(first), tuple(second), parting_places(history, first, second)[0]


def stuck_paper(history, tips):
    """Return the paper that shows that no order of all tips is clean, or None."""
    family = stuck_family(history, tips)
    if family is None:
        return None
    return "stuck", tuple([tuple(positions) for positions in family])


def _later_places(history, nodes):
    """Return the ascending list of the places that some node of the past other than the start writes."""
    later = [node for node in history.past_of(nodes) if node > 0]
    return sorted({place for node in later for place in history.written(node)})


def _parted_heads(history, heads, place):
    """Return two of the ascending heads of a place that write different values."""
    values = [value_at(history.written(head), place) for head in heads]
    return heads[0], [head for head, value in zip(heads, values) if value != values[0]][0]
