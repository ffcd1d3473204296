"""Which places a deed touches, and which deeds are independent."""


def touched(rulebook, deed):
    """Return the ascending list of the places that a deed writes and of their mates."""
    return sorted(set([mate for place in deed for mate in rulebook.mates(place)]) | set(deed))


def independent(rulebook, first, second):
    """Tell whether neither of two deeds writes a place that the other one touches."""
    return not _meets(first, touched(rulebook, second)) and not _meets(second, touched(rulebook, first))


def earlier_ties(rulebook, run):
    """Return for each deed of a run the ascending positions of the earlier deeds that are not independent of it."""
    touches = [touched(rulebook, deed) for deed in run]
    ties = []
    for later, deed in enumerate(run):
        ties.append([at for at in range(later) if _meets(run[at], touches[later]) or _meets(deed, touches[at])])
    return ties


def _meets(deed, places):
    """Tell whether a deed writes one of the places."""
    return any(place in places for place in deed)
