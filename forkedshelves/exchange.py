"""How exchanges of independent neighbours lead from one run to another one of the same deeds."""

from forkedshelves.errors import OtherDeeds
from forkedshelves.touching import earlier_ties


def exchange_plan(rulebook, first, second):
    """Return the fewest exchanges that lead from the first run to the second one, or the pair that prevents it."""
    targets = _targets(first, second)
    ties = earlier_ties(rulebook, first)
    for earlier in range(len(first)):
        for later in range(earlier + 1, len(first)):
            if targets[earlier] > targets[later] and earlier in ties[later]:
                return "pair", earlier, later
    return "exchanges", _exchanges(targets)


def _targets(first, second):
    """Return for each deed of the first run the position of the corresponding deed of the second one."""
    positions = {}
    for position, deed in enumerate(second):
        positions.setdefault(_deed_key(deed), []).append(position)
    targets = []
    for deed in first:
        left = positions.get(_deed_key(deed), [])
        if not left:
            raise OtherDeeds()
        targets.append(left.pop(0))
    if len(first) != len(second):
        raise OtherDeeds()
    return targets


def _deed_key(deed):
    """Return the marks of a deed in ascending order, by which equal deeds are found."""
    return tuple(sorted(deed.items()))


def _exchanges(targets):
    """Return the positions of exchanges of neighbours that sort the targets.

    Each exchange puts one pair in order that was not, so no shorter list does this.
    """
    order = list(targets)
    positions = []
    for end in range(len(order) - 1, 0, -1):
        for at in range(end):
            if order[at] > order[at + 1]:
                order[at], order[at + 1] = order[at + 1], order[at]
                positions.append(at)
    return positions
