"""Why a choice must be closed: a run like the given one that breaks a rule if only the choice is done."""

from forkedshelves.errors import ClosedChoice
from forkedshelves.picks import open_place


def breaking_case(rulebook, run, choice):
    """Return a run of the same places and a bar that it never holds, but holds if only the choice is done."""
    opened = open_place(rulebook, run, choice)
    if opened is None:
        raise ClosedChoice()
    position, place, _ = opened
    new_run = _numbered(run)
    mates = rulebook.mates(place)
    written = [mate for mate in sorted(run[position]) if mate in mates][0]
    # The deed that is missing comes after all others that write the place before this one. So in the whole
    # run, once this deed is done, the place has had another value for good.
    left = _value_left(new_run, [at for at in choice if at < position], place)
    return new_run, tuple(sorted([(written, new_run[position][written]), (place, left)]))


def _numbered(run):
    """Return a run that writes the same places, with the values 1, 2, 3 and so on."""
    numbered = []
    last = 0
    for deed in run:
        numbered.append({place: last + at for at, place in enumerate(deed, start=1)})
        last += len(deed)
    return numbered


def _value_left(run, positions, place):
    """Return the value that the deeds at some positions, done on the empty book, leave at a place."""
    value = 0
    for position in sorted(positions):
        value = run[position].get(place, value)
    return value
