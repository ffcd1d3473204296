"""Which changes of two forks of one base clash, and merges of their parts."""

from forkedshelves.books import with_writes
from forkedshelves.errors import PartClash


def clash_pairs(first, second):
    """Return the ascending list of the pairs of places whose changes clash in two forks."""
    return [(x, y) for x in first.places for y in second.places if _is_clash(first, second, x, y)]


def inherited_pairs(first, second):
    """Return the ascending list of the pairs of places whose smallest parts have places that clash."""
    pairs = {pair: True for pair in clash_pairs(first, second)}
    needed = {y: second.part([y]).places for y in second.places}
    inherited = []
    for x in first.places:
        own = first.part([x]).places
        struck = [place for place in second.places if any((other, place) in pairs for other in own)]
        inherited.extend([(x, y) for y in second.places if any(place in struck for place in needed[y])])
    return inherited


def merge_parts(first, second):
    """Return the base with the changes of a part of one fork and of a part of another one."""
    for x in first.places:
        for y in second.places:
            if _is_clash(first.origin, second.origin, x, y):
                raise PartClash(x, y)
    return with_writes(first.book(), second.origin.changes_at(second.places))


def _is_clash(first, second, x, y):
    """Tell whether the change of a place of one fork clashes with the change of a place of another one."""
    left = first.mark(x)
    right = second.mark(y)
    if x == y:
        return left != right
    return len(first.rulebook.bars_with(left, right)) > 0
