"""Where steps from place to place lead."""


def reached(start, followers):
    """Return the ascending list of the places to which steps lead from a place, itself included.

    Followers are a dictionary from each place to the list of the places that are one step from it.
    """
    seen = {start}
    waiting = [start]
    while waiting:
        current = waiting.pop()
        for place in followers[current]:
            if place not in seen:
                seen.add(place)
                waiting.append(place)
    return sorted(seen)
