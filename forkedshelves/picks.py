"""Choosing deeds of a run: which others they rest on, and doing only these."""

from forkedshelves.books import with_writes
from forkedshelves.errors import OpenChoice
from forkedshelves.runs import play_run
from forkedshelves.touching import touched


def rests_on(rulebook, run):
    """Return for each deed of a run the ascending list of the positions of the deeds on which it rests."""
    return [sorted({missing for _, missing in supports}) for supports in _supports(rulebook, run)]


def with_needed(rulebook, run, choice):
    """Return the smallest closed choice that contains the choice."""
    chosen = list(choice)
    rests = rests_on(rulebook, run)
    # Deeds rest on earlier ones only, so one walk down the run finds all.
    for position in range(len(run) - 1, -1, -1):
        if position in chosen:
            chosen.extend(rests[position])
    return sorted(set(chosen))


def with_dependents(rulebook, run, choice):
    """Return the smallest choice that contains the choice and, with each deed, all that rest on it."""
    chosen = list(choice)
    for position, rests in enumerate(rests_on(rulebook, run)):
        if any(earlier in chosen for earlier in rests):
            chosen.append(position)
    return sorted(set(chosen))


def open_place(rulebook, run, choice):
    """Return (position, place, missing) of the first deed of a choice that rests on one outside, or None."""
    supports = _supports(rulebook, run)
    for position in sorted(choice):
        for place, missing in supports[position]:
            if missing not in choice:
                return position, place, missing
    return None


def pick(rulebook, book, run, choice):
    """Return the book after the deeds of a closed choice of a lawful run."""
    play_run(rulebook, book, run)
    opened = open_place(rulebook, run, choice)
    if opened is not None:
        position, place, missing = opened
        raise OpenChoice(position, place, missing)
    picked = dict(book)
    for position in sorted(choice):
        picked = with_writes(picked, run[position])
    return picked


def _supports(rulebook, run):
    """Return for each deed the list of (place, position): where it leans, and the deed on which it rests there."""
    last_writers = {}
    supports = []
    for position, deed in enumerate(run):
        leaned = [place for place in touched(rulebook, deed) if place not in deed]
        supports.append([(place, last_writers[place]) for place in leaned if place in last_writers])
        for place in deed:
            last_writers[place] = position
    return supports
