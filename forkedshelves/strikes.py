"""Changes of several forks of one base, and which of them strike which others by kept answers.

A change is a pair (position, place): a changed place of the fork at a position of a list of forks.
"""

from itertools import combinations

from forkedshelves.clashes import clash_pairs
from forkedshelves.forks import Fork


def forks_of(rulebook, base, books):
    """Return the forks of a base that have these books."""
    return [Fork(rulebook, base, book) for book in books]


def all_changes(forks):
    """Return the ascending list of the changes of all forks."""
    return [(position, place) for position, fork in enumerate(forks) for place in fork.places]


def mark_of(forks, change):
    """Return the mark of a change."""
    position, place = change
    return forks[position].mark(place)


def clashes_between(forks):
    """Return the pairs of changes of two forks that clash, by the positions of the forks, then by the places."""
    clashes = []
    for i, j in combinations(range(len(forks)), 2):
        clashes.extend([((i, x), (j, y)) for x, y in clash_pairs(forks[i], forks[j])])
    return clashes


def strikes_between(forks, clashes, answers):
    """Return for each change the ascending list of the changes that it strikes."""
    dependents = _dependents(forks)
    strikes = {change: [] for change in all_changes(forks)}
    for first, second in clashes:
        for winner, loser in [(first, second), (second, first)]:
            if answers.prefers(mark_of(forks, winner), mark_of(forks, loser)):
                strikes[winner].extend(dependents[loser])
    return {change: sorted(set(strikes[change])) for change in strikes}


def _dependents(forks):
    """Return for each change the changes of its fork whose smallest parts contain it."""
    dependents = {change: [] for change in all_changes(forks)}
    for position, place in all_changes(forks):
        for needed in forks[position].part([place]).places:
            dependents[(position, needed)].append((position, place))
    return dependents
