"""Orders in which no tip is refused, and how all orders of some tips end."""

from itertools import combinations, permutations

from forkedshelves.graph import check_nodes
from forkedshelves.heads import clash_of


def clean_order(history, tips):
    """Return the least order of all tips in which none is refused, or None."""
    check_nodes(history, tips)
    least = _least_orders(history, tips)
    everything = tuple(range(len(tips)))
    if everything not in least:
        return None
    return [tips[at] for at in least[everything]]


def stuck_family(history, tips):
    """Return all reached sets of positions if there is no order in which no tip is refused, or None."""
    check_nodes(history, tips)
    least = _least_orders(history, tips)
    if tuple(range(len(tips))) in least:
        return None
    return [list(chosen) for chosen in least if chosen]


def ends(history, tips):
    """Return for each set of positions that some order of all tips keeps the set and the least such order."""
    check_nodes(history, tips)
    clean = _clean_sets(history, tips)
    orders = {}
    # The orders come in ascending order, so the first one that keeps a set is the least one.
    for order in permutations(range(len(tips))):
        orders.setdefault(_kept(clean, order), list(order))
    return [(list(kept), orders[kept]) for kept in orders]


def _clean_sets(history, tips):
    """Return the clean sets of positions, as keys, those with fewer positions first, then in ascending order."""
    clean = {}
    for many in range(1, len(tips) + 1):
        for chosen in combinations(range(len(tips)), many):
            if clash_of(history, [tips[at] for at in chosen]) is None:
                clean[chosen] = True
    return clean


def _least_orders(history, tips):
    """Return for each reached set of positions, the empty one included, the least order in which none is refused."""
    least = {(): []}
    for chosen in _clean_sets(history, tips):
        orders = []
        for last in chosen:
            before = tuple([at for at in chosen if at != last])
            if before in least:
                orders.append([*least[before], last])
        if orders:
            least[chosen] = min(orders)
    return least


def _kept(clean, order):
    """Return the ascending positions of the tips that an order of positions keeps."""
    kept = ()
    for position in order:
        longer = tuple(sorted([*kept, position]))
        if longer in clean:
            kept = longer
    return kept
