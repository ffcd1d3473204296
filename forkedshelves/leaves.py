"""Leaves of trees as tables from places to (value, stamp), and how three tables merge by their stamps."""

from forkedshelves.errors import TreeClash


def table_of(leaves):
    """Return the table of a list of leaves (place, value, stamp)."""
    return {place: (value, stamp) for place, value, stamp in leaves}


def leaves_of(table):
    """Return the ascending list of the leaves (place, value, stamp) of a table."""
    return [(place, table[place][0], table[place][1]) for place in sorted(table)]


def written_table(table, writes, stamp):
    """Return the table after writes that have a stamp."""
    written = dict(table)
    for place, value in writes.items():
        if value == 0:
            written.pop(place, None)
        else:
            written[place] = (value, stamp)
    return written


def merged_table(base, first, second):
    """Return the table that merges two tables over a base, or raise TreeClash for the lowest place."""
    merged = {}
    for place in sorted(set(base) | set(first) | set(second)):
        old, own, other = [_stamp_at(table, place) for table in (base, first, second)]
        if own == other or other == old:
            source = first
        elif own == old:
            source = second
        else:
            raise TreeClash(place)
        if place in source:
            merged[place] = source[place]
    return merged


def _stamp_at(table, place):
    """Return the stamp of the leaf at a place, or 0 if there is none; stamps are above 0."""
    return table[place][1] if place in table else 0
