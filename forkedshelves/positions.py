"""Merging arrangements of items position by position, as if nothing ever moved."""

from forkedshelves.errors import PositionClash


def merge_positions(base, first, second):
    """Return the merge of two arrangements over a third one."""
    merged = {}
    for position in sorted(set(base) | set(first) | set(second)):
        old, own, other = [arrangement.get(position) for arrangement in (base, first, second)]
        if own == other or other == old:
            chosen = own
        elif own == old:
            chosen = other
        else:
            raise PositionClash(position)
        if chosen is not None:
            merged[position] = chosen
    return merged


def doubled(arrangement):
    """Return the ascending list of the items that stand at several positions."""
    counts = {}
    for item, _ in arrangement.values():
        counts[item] = counts.get(item, 0) + 1
    return [item for item in sorted(counts) if counts[item] > 1]
