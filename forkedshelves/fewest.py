"""The fewest changes that two forks have to give up."""

from forkedshelves.clashes import inherited_pairs
from forkedshelves.matching import most_disjoint


def fewest_given_up(first, second, *, favour="first"):
    """Return the changes that each of two forks gives up, and pairs of which one change each must go."""
    return most_disjoint(inherited_pairs(first, second), favour=favour)


def verdicts(first, second):
    """Return for each fork what becomes of its changes in the best keepings: "kept", "given" or "either"."""
    pairs = inherited_pairs(first, second)
    # Every best keeping gives up at least what a favoured fork gives, and at most what the other fork gives then.
    sparing_first = most_disjoint(pairs, favour="first")
    sparing_second = most_disjoint(pairs, favour="second")
    of_first = {place: _verdict(place, sparing_first[0], sparing_second[0]) for place in first.places}
    of_second = {place: _verdict(place, sparing_second[1], sparing_first[1]) for place in second.places}
    return of_first, of_second


def _verdict(place, always_given, sometimes_given):
    """Return the word for a changed place."""
    if place in always_given:
        return "given"
    return "either" if place in sometimes_given else "kept"
