"""Merges of parts of two forks to which nothing can be added, and the questions that they answer."""

from forkedshelves.clashes import inherited_pairs
from forkedshelves.reach import reached


def questions(first, second):
    """Return the groups of places that inherited pairs connect, by their lowest first places."""
    links = _links(inherited_pairs(first, second))
    found = []
    for place in first.places:
        if (0, place) in links and not _is_asked(place, 0, found):
            group = reached((0, place), links)
            found.append(([x for side, x in group if side == 0], [y for side, y in group if side == 1]))
    return found


def choices(first, second, question):
    """Return the pairs of lists of places of a question that can be kept, to which none of its places can be added."""
    pairs = inherited_pairs(first, second)
    offered = []
    for kept_second in _kept_seconds(pairs, question):
        kept_first = [x for x in question[0] if _without_pair(pairs, x, kept_second) == kept_second]
        offered.append((kept_first, kept_second))
    return sorted(offered)


def freest_merges(first, second):
    """Return the pairs of lists of places of two parts that merge, neither of which could be larger."""
    asked = questions(first, second)
    unasked_first = [place for place in first.places if not _is_asked(place, 0, asked)]
    unasked_second = [place for place in second.places if not _is_asked(place, 1, asked)]
    merges = [(unasked_first, unasked_second)]
    for question in asked:
        offered = choices(first, second, question)
        merges = [(sorted(xs + more_xs), sorted(ys + more_ys)) for xs, ys in merges for more_xs, more_ys in offered]
    return sorted(merges)


def _links(pairs):
    """Return for each place of a pair, as (side, place), the places of the other side with which pairs connect it."""
    links = {}
    for x, y in pairs:
        links.setdefault((0, x), []).append((1, y))
        links.setdefault((1, y), []).append((0, x))
    return links


def _is_asked(place, side, asked):
    """Tell whether a place of one side is in one of the questions."""
    return any(place in question[side] for question in asked)


def _kept_seconds(pairs, question):
    """Return the lists of second places of a question that are what some of its first places leave."""
    firsts, seconds = question
    found = {tuple(seconds): True}
    for x in firsts:
        for kept in list(found):
            found[tuple(_without_pair(pairs, x, kept))] = True
    return [list(kept) for kept in found]


def _without_pair(pairs, x, places):
    """Return those of some second places that have no pair with a first place."""
    return [y for y in places if (x, y) not in pairs]
