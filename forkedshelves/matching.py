"""Largest lists of pairs of which no two meet, and the fewest places that meet every pair."""

from forkedshelves.reach import reached


def most_disjoint(pairs, *, favour="first"):
    """Return the places to give on both sides, and as many pairs of which no two have a place in common.

    The favoured side gives only what it gives in every smallest giving.
    """
    if favour == "second":
        return _fewest_second(pairs)
    given_second, given_first, turned = _fewest_second([(y, x) for x, y in pairs])
    return given_first, given_second, sorted([(x, y) for y, x in turned])


def _fewest_second(pairs):
    """Return (given_first, given_second, chosen) such that the second side gives as few places as possible."""
    partners = _partners(pairs)
    holders = _holders(partners)
    matched = list(holders.values())
    # A first place that is not matched is never given, so all its partners are, so their holders are not, and so on.
    followers = {x: [holders[y] for y in partners[x] if y in holders] for x in partners}
    spared = {kept: True for x in partners if x not in matched for kept in reached(x, followers)}
    given_first = [x for x in partners if x not in spared]
    given_second = sorted({y for x in spared for y in partners[x]})
    return given_first, given_second, sorted([(holders[y], y) for y in holders])


def _partners(pairs):
    """Return for each first place, in ascending order, the ascending list of the second places of its pairs."""
    partners = {}
    for x, y in sorted(set(pairs)):
        partners.setdefault(x, []).append(y)
    return partners


def _holders(partners):
    """Return a largest matching: for each second place that is matched, the first place that holds it."""
    holders = {}
    for x in partners:
        handed = _exchange(partners, holders, x)
        for first, second in handed:
            holders[second] = first
    return holders


def _exchange(partners, holders, start):
    """Return the pairs by which one more first place gets a second one and none loses its own, or the empty list.

    Each first place of the pairs hands its second place over to the one before it.
    """
    seen = set()
    waiting = [(start, [])]
    while waiting:
        x, before = waiting.pop()
        for y in partners[x]:
            if y not in holders:
                return [*before, (x, y)]
            if y not in seen:
                seen.add(y)
                waiting.append((holders[y], [*before, (x, y)]))
    return []
