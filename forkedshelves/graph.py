"""Nodes of a history and their pasts."""

from forkedshelves.errors import NoNode


def check_nodes(history, nodes):
    """Raise NoNode for the first one of the nodes that the history does not have."""
    for node in nodes:
        if node not in history:
            raise NoNode(node)


def latest(history, nodes):
    """Return those of an ascending list of nodes that are in the past of no other one of the list."""
    kept = []
    # Downwards: the nodes that know a node have larger numbers, and the latest of them is kept already.
    for node in reversed(nodes):
        if not any(history.knows(other, node) for other in kept):
            kept.append(node)
    return sorted(kept)
