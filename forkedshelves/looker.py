"""Reading papers about histories: whether what they list shows what they say, without any search."""

from forkedshelves.books import value_at, with_writes
from forkedshelves.graph import check_nodes
from forkedshelves.heads import clash_of
from forkedshelves.orders import parting_places
from forkedshelves.paperforms import has_form


def _shows_clean(history, nodes, rows):
    """Tell whether the rows give the heads of all places, and these make a lawful book."""
    written = _writers_by_place(history, nodes)
    if [place for place, _ in rows] != sorted(written):
        return False
    if not all(_are_all_heads(history, written[place], place, heads) for place, heads in rows):
        return False
    writes = {place: _written_value(history, heads[0], place) for place, heads in rows}
    return history.rulebook.is_lawful(with_writes(history.book(0), writes))


def _shows_place(history, nodes, place, first, second):
    """Tell whether both nodes are heads of the place and write different values."""
    if not _is_head(history, nodes, place, first) or not _is_head(history, nodes, place, second):
        return False
    return _written_value(history, first, place) != _written_value(history, second, place)


def _shows_rule(history, nodes, key, bar, writers):
    """Tell whether the rule has the bar, and each mark of it is written by its head."""
    if not any(name == key and rule.is_bar(bar) for name, rule in history.rulebook):
        return False
    if len(bar) != len(writers):
        return False
    return all(_writes_mark(history, nodes, writer, mark) for writer, mark in zip(writers, bar))


def _shows_orders(history, nodes, first, second, place):
    """Tell whether both orders contain the same tips, and the books that they end with differ at the place."""
    if not first or sorted(first) != sorted(second) or not _is_strict(sorted(first)):
        return False
    if not all(node in nodes for node in first):
        return False
    return place in parting_places(history, list(first), list(second))


def _shows_stuck(history, nodes, family):
    """Tell whether the family has all single positions and cannot be left by clean steps, and lacks the whole."""
    sets = {tuple(positions): True for positions in family}
    everything = tuple(range(len(nodes)))
    if everything in sets or not all((position,) in sets for position in everything):
        return False
    if not all(positions and _is_strict(positions) and _are_within(positions, everything) for positions in sets):
        return False
    steps = sorted({tuple(sorted([*positions, at])) for positions in sets for at in everything if at not in positions})
    beyond = [step for step in steps if step not in sets]
    return all(clash_of(history, [nodes[at] for at in step]) is not None for step in beyond)


READERS = {
    "clean": _shows_clean,
    "place": _shows_place,
    "rule": _shows_rule,
    "orders": _shows_orders,
    "stuck": _shows_stuck,
}


def accepts(history, nodes, paper):
    """Tell whether a paper about a list of nodes meets the conditions for its word."""
    check_nodes(history, nodes)
    if not has_form(paper):
        return False
    word, *parts = paper
    reader = READERS[word]
    return reader(history, nodes, *parts)


def _writers_by_place(history, nodes):
    """Return the ascending writers of each place that some node of the past other than the start writes."""
    written = {}
    for node in history.past_of(nodes):
        if node > 0:
            for place in history.written(node):
                written.setdefault(place, [0]).append(node)
    return written


def _are_all_heads(history, writers, place, heads):
    """Tell whether an ascending list of writers of a place covers all of them, and its values are one."""
    if not heads or not _is_strict(heads) or not _are_within(heads, writers):
        return False
    if any(_is_known(history, node, heads) for node in heads):
        return False
    if not all(node in heads or _is_known(history, node, heads) for node in writers):
        return False
    return len({_written_value(history, node, place) for node in heads}) == 1


def _is_head(history, nodes, place, node):
    """Tell whether a node of the past writes a place and no other writer of the past knows it."""
    writers = _writers_by_place(history, nodes).get(place, [0])
    return node in writers and not _is_known(history, node, writers)


def _writes_mark(history, nodes, node, mark):
    """Tell whether a node is a head of the place of a mark and writes its value."""
    place, value = mark
    return _is_head(history, nodes, place, node) and _written_value(history, node, place) == value


def _is_known(history, node, others):
    """Tell whether a node is in the past of another one of some nodes."""
    return any(history.knows(other, node) for other in others if other != node)


def _written_value(history, node, place):
    """Return the value that a writer of a place writes there."""
    return value_at(history.written(node), place)


def _is_strict(numbers):
    """Tell whether numbers are in ascending order without duplicates."""
    return all(first < second for first, second in zip(numbers, numbers[1:]))


def _are_within(numbers, allowed):
    """Tell whether all numbers are allowed ones."""
    return all(number in allowed for number in numbers)
