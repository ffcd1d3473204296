"""Where steps from place to place lead. A place may be anything that can be a key.

Followers are a dictionary from each place to the list of the places that are one step from it.
"""


def ways_from(start, followers):
    """Return a shortest way to each place to which steps lead from a place, itself included; nearer places first."""
    ways = {start: [start]}
    waiting = [start]
    while waiting:
        current = waiting.pop(0)
        for place in followers[current]:
            if place not in ways:
                ways[place] = [*ways[current], place]
                waiting.append(place)
    return ways


def reached(start, followers):
    """Return the ascending list of the places to which steps lead from a place, itself included."""
    return sorted(ways_from(start, followers))


def shortest_ring(followers):
    """Return a ring of the fewest places, in which a step leads from each to the next one and back, or None."""
    rings = []
    for start in followers:
        ways = ways_from(start, followers)
        # Nearer places come first, so the first one that leads back to the start closes a shortest ring.
        closing = [place for place in ways if start in followers[place]]
        if closing:
            rings.append(ways[closing[0]])
    return min(rings, key=len, default=None)
