"""Which changes of several forks stay by kept answers."""

from forkedshelves.books import with_writes
from forkedshelves.errors import AnswerRing, Unanswered
from forkedshelves.reach import shortest_ring
from forkedshelves.strikes import clashes_between, forks_of, mark_of, strikes_between


def settle(rulebook, base, forks, answers):
    """Return for each fork, given by its book, the ascending list of the places whose changes stay."""
    made = forks_of(rulebook, base, forks)
    kept, _ = settled_changes(made, answers)
    return [[place for at, place in kept if at == position] for position in range(len(made))]


def settled_book(rulebook, base, forks, answers):
    """Return the base with the changes that stay."""
    made = forks_of(rulebook, base, forks)
    kept, _ = settled_changes(made, answers)
    return with_writes(base, dict([mark_of(made, change) for change in kept]))


def settled_changes(forks, answers):
    """Return the ascending list of the changes of forks that stay, and for each change those that it strikes."""
    clashes = clashes_between(forks)
    for first, second in clashes:
        _check_answered(answers, mark_of(forks, first), mark_of(forks, second))
    strikes = strikes_between(forks, clashes, answers)
    ring = shortest_ring(strikes)
    if ring is not None:
        raise AnswerRing(ring)
    return _unstruck(strikes), strikes


def _check_answered(answers, first, second):
    """Raise Unanswered if neither of two marks is preferred to the other one."""
    if not answers.prefers(first, second) and not answers.prefers(second, first):
        raise Unanswered(first, second)


def _unstruck(strikes):
    """Return the only set of changes in which a change is exactly if no change of the set strikes it.

    There is no ring, so there is always a change that none of those left strikes. It stays, and what it strikes goes.
    """
    kept = []
    left = list(strikes)
    while left:
        struck = _struck_by(left, strikes)
        free = [change for change in left if change not in struck]
        kept.extend(free)
        settled = free + _struck_by(free, strikes)
        left = [change for change in left if change not in settled]
    return sorted(kept)


def _struck_by(changes, strikes):
    """Return the ascending list of the changes that some changes strike."""
    return sorted({struck for change in changes for struck in strikes[change]})
