"""Trees of the nodes of a history."""

from forkedshelves.compare import agreeing_blocks
from forkedshelves.forest import Forest
from forkedshelves.found import heads_by_place


def node_leaves(history, node):
    """Return the ascending list of the leaves (place, value, stamp) of a node."""
    book = history.book(node)
    by_place = heads_by_place(history, [node])
    # The start has the number 0, and stamps are above 0.
    return [(place, book[place], 1 + max(by_place[place])) for place in sorted(book)]


def plant_node(forest, history, node):
    """Plant the leaves of a node in a forest, and return the number of the tree."""
    return forest.plant(node_leaves(history, node))


def shared_blocks(history, depth, first, second):
    """Return the largest blocks at which two nodes have the same part or both have none."""
    forest = Forest(depth)
    trees = [plant_node(forest, history, node) for node in (first, second)]
    return agreeing_blocks(forest, trees[0], trees[1])
