"""Runs of deeds: playing them, their first order, and their stages."""

from forkedshelves.books import with_writes
from forkedshelves.errors import BrokenRun
from forkedshelves.lawful import check_lawful
from forkedshelves.touching import earlier_ties


def play_run(rulebook, book, run):
    """Return the books after each deed of a run, which must keep the book lawful."""
    check_lawful(rulebook, book)
    books = []
    current = book
    for position, deed in enumerate(run):
        current = with_writes(current, deed)
        broken = rulebook.reason(current)
        if broken is not None:
            key, bar = broken
            raise BrokenRun(position, key, bar)
        books.append(current)
    return books


def first_run(rulebook, run):
    """Return the least run to which exchanges of independent neighbours lead.

    It takes, again and again, the least deed that is independent of all deeds left before it.
    """
    ties = earlier_ties(rulebook, run)
    left = list(range(len(run)))
    ordered = []
    while left:
        free = [at for at in left if _is_free(ties[at], left)]
        chosen = min(free, key=lambda at: sorted(run[at].items()))
        left.remove(chosen)
        ordered.append(dict(run[chosen]))
    return ordered


def stages(rulebook, run):
    """Return the stages of a run and a chain that shows that no fewer stages do."""
    ties = earlier_ties(rulebook, run)
    levels = []
    for earlier in ties:
        levels.append(max([levels[at] + 1 for at in earlier], default=0))
    many = max(levels, default=-1) + 1
    rows = [[at for at in range(len(run)) if levels[at] == level] for level in range(many)]
    return rows, _chain(ties, levels, many)


def _is_free(earlier, left):
    """Tell whether no earlier deed that a deed has to follow is left."""
    return all(at not in left for at in earlier)


def _chain(ties, levels, many):
    """Return ascending positions, one of each level, of which none is independent of the next one."""
    if many == 0:
        return []
    chain = [levels.index(many - 1)]
    while levels[chain[0]] > 0:
        below = levels[chain[0]] - 1
        chain.insert(0, [at for at in ties[chain[0]] if levels[at] == below][0])
    return chain
