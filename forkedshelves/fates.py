"""What became of writes, and which nodes of a list brought what is found."""

from forkedshelves.books import value_at
from forkedshelves.errors import NoWrite
from forkedshelves.found import heads_by_place
from forkedshelves.graph import check_nodes
from forkedshelves.heads import heads


def fate(history, nodes, node, place):
    """Return the ascending list of the heads of a place that have a writer of it in their past."""
    check_nodes(history, [*nodes, node])
    # The start writes every place, also those that its book does not list.
    writes_place = node == 0 or place in history.written(node)
    if not writes_place or node not in history.past_of(nodes):
        raise NoWrite(node, place)
    return [head for head in heads(history, nodes, place) if history.knows(head, node)]


def bearers(history, nodes, mark):
    """Return the ascending positions of the nodes whose past contains a head that writes the mark."""
    place, value = mark
    writers = [head for head in heads(history, nodes, place) if value_at(history.written(head), place) == value]
    return [at for at, node in enumerate(nodes) if any(history.knows(node, head) for head in writers)]


def own_places(history, nodes, position):
    """Return the ascending list of the places that have a head, not the start, from one entry of a list only."""
    check_nodes(history, nodes)
    others = history.past_of(nodes[:position] + nodes[position + 1:])
    own = [node for node in history.past_of([nodes[position]]) if node > 0 and node not in others]
    found = heads_by_place(history, nodes)
    return [place for place in sorted(found) if any(head in own for head in found[place])]
