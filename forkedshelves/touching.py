"""Which places a deed touches, and which deeds are independent."""


def touched(rulebook, deed):
    """Return the ascending list of the places that a deed writes and of their mates."""
    return sorted(set([mate for place in deed for mate in rulebook.mates(place)]) | set(deed))


def independent(rulebook, first, second):
    """Tell whether neither of two deeds writes a place that the other one touches."""
    # Mates are mutual: if the second deed writes what the first one touches, the first one does the same to it.
    return not _writes_one_of(first, touched(rulebook, second))


def earlier_ties(rulebook, run):
    """Return for each deed of a run the ascending positions of the earlier deeds that are not independent of it."""
    ties = []
    for later, deed in enumerate(run):
        places = touched(rulebook, deed)
        ties.append([at for at in range(later) if _writes_one_of(run[at], places)])
    return ties


def _writes_one_of(deed, places):
    """Tell whether a deed writes one of the places."""
    return any(place in places for place in deed)
