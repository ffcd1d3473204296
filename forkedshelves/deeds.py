"""The deeds of a desk. Each returns the bench after it, or None if it changes nothing, and what the deed returns."""

from forkedshelves.books import value_at
from forkedshelves.errors import ForkExists, LastFork, OpenFold
from forkedshelves.folds import fold
from forkedshelves.forks import Fork
from forkedshelves.found import found_by_place
from forkedshelves.lines import deed_text
from forkedshelves.settling import settled_book


def _fork(bench, name, source):
    """Make a fork with the tip of another one."""
    tip = bench.tip(source)
    if name in bench.tips:
        raise ForkExists(name)
    return bench.with_tips({**bench.tips, name: tip}), tip


def _drop(bench, name):
    """Remove a fork."""
    bench.tip(name)
    if len(bench.tips) == 1:
        raise LastFork(name)
    return bench.with_tips({other: bench.tips[other] for other in bench.tips if other != name}), None


def _write(bench, name, writes):
    """Write on the tip of a fork."""
    return _written(bench, name, bench.tip(name), writes)


def _merge(bench, name, others, answers):
    """Merge the tips of other forks into a fork."""
    tips = [bench.tip(other) for other in [name, *others]]
    leading = [last for last in tips if all(bench.graph.knows(last, tip) for tip in tips)]
    if answers or not leading:
        return _merged(bench, name, tips, answers)
    # Two leading tips would know each other, so they are one node.
    moved = None if leading[0] == tips[0] else bench.with_tips({**bench.tips, name: leading[0]})
    return moved, leading[0]


def _settle(bench, name, other):
    """Merge another fork into a fork by the kept answers."""
    tips = [bench.tip(name), bench.tip(other)]
    base = _closed_fold(bench.graph, tips)
    books = [bench.graph.book(tip) for tip in tips]
    book = settled_book(bench.graph.rulebook, base, books, bench.preferences)
    found = found_by_place(bench.graph, tips)
    answers = {place: value_at(book, place) for place in found if found[place] != [value_at(book, place)]}
    return _merged(bench, name, tips, answers)


def _carry(bench, name, source, places):
    """Carry changes of one fork over to another one."""
    tips = [bench.tip(name), bench.tip(source)]
    base = _closed_fold(bench.graph, tips)
    book = bench.graph.book(tips[1])
    part = Fork(bench.graph.rulebook, base, book).part(places)
    return _written(bench, name, tips[0], {place: value_at(book, place) for place in part.places})


def _prefer(bench, winner, loser):
    """Record an answer."""
    if bench.preferences.prefers(winner, loser):
        return None, False
    preferences = bench.preferences.clone()
    preferences.prefer(winner, loser)
    return bench.with_preferences(preferences), True


def _forget(bench, winner, loser):
    """Remove an answer."""
    preferences = bench.preferences.clone()
    if not preferences.forget(winner, loser):
        return None, False
    return bench.with_preferences(preferences), True


DEEDS = {
    "fork": _fork,
    "drop": _drop,
    "write": _write,
    "merge": _merge,
    "settle": _settle,
    "carry": _carry,
    "prefer": _prefer,
    "forget": _forget,
}


def is_deed(deed):
    """Tell whether a tuple begins with the word of a deed."""
    return deed[0] in DEEDS


def done(bench, deed):
    """Return the bench after a deed, with its text if it changes something, and what the deed returns."""
    word, *args = deed
    action = DEEDS[word]
    after, result = action(bench, *args)
    if after is None:
        return bench, result
    return after.with_line(deed_text(deed)), result


def _written(bench, name, tip, writes):
    """Return the bench with a fork whose tip is a write on a node, and this tip."""
    graph = bench.graph.clone()
    node = graph.write(tip, writes)
    return bench.with_node(graph, name, node), node


def _merged(bench, name, tips, answers):
    """Return the bench with a fork whose tip is a merge of nodes, and this tip."""
    graph = bench.graph.clone()
    node = graph.merge(tips, answers=answers)
    return bench.with_node(graph, name, node), node


def _closed_fold(graph, tips):
    """Return the book of the fold of tips, which must not be open anywhere."""
    book, open_values = fold(graph, tips)
    if open_values:
        raise OpenFold(min(open_values))
    return book
