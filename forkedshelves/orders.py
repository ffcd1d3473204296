"""Orders of merging: where tips clash, and what merging them one after the other keeps."""

from itertools import combinations

from forkedshelves.books import changes
from forkedshelves.graph import check_nodes
from forkedshelves.heads import clash_of, merged_book


def least_clash(history, tips):
    """Return the first one of the shortest sub-lists of tips that are not clean, or None."""
    check_nodes(history, tips)
    # A clash of more tips than a bar has marks is a clash of fewer tips already.
    most = min(len(tips), history.rulebook.largest_width())
    for many in range(2, most + 1):
        for chosen in combinations(tips, many):
            if clash_of(history, list(chosen)) is not None:
                return list(chosen)
    return None


def play_order(history, order):
    """Merge tips one after the other, and return those that are kept and those that are refused."""
    check_nodes(history, order)
    kept = []
    refused = []
    for tip in order:
        if clash_of(history, [*kept, tip]) is None:
            kept.append(tip)
        else:
            refused.append(tip)
    return kept, refused


def two_orders(history, tips):
    """Return two orders of the least clash that end differently, or None if there is no clash."""
    clash = least_clash(history, tips)
    if clash is None:
        return None
    return clash, [*clash[:-2], clash[-1], clash[-2]]


def parting_places(history, first, second):
    """Return the ascending list of the places at which the books that two orders end with differ."""
    check_nodes(history, [*first, *second])
    books = [merged_book(history, play_order(history, order)[0]) for order in (first, second)]
    return sorted(changes(books[0], books[1]))
