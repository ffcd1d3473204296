"""Heads and found values of all places at once, and the book that they make."""

from forkedshelves.books import value_at
from forkedshelves.errors import PlaceClash, RuleClash
from forkedshelves.graph import latest


def heads_by_place(history, nodes):
    """Return the ascending heads of each place that some node of the past lists in its writes.

    Every other place has the start as its only head, and is empty.
    """
    writers = {}
    for node in history.past_of(nodes):
        for place in history.written(node):
            writers.setdefault(place, []).append(node)
    return {place: latest(history, writers[place]) for place in writers}


def found_by_place(history, nodes):
    """Return the ascending found values of each place that some node of the past lists in its writes."""
    heads = heads_by_place(history, nodes)
    return {place: values_of(history, heads[place], place) for place in heads}


def values_of(history, writers, place):
    """Return the ascending values, without duplicates, that some writers give a place."""
    return sorted({value_at(history.written(writer), place) for writer in writers})


def single_book(found):
    """Return the book of the places that have exactly one found value."""
    return {place: found[place][0] for place in found if len(found[place]) == 1 and found[place][0] > 0}


def clash_in(rulebook, found):
    """Return ("place", place, found) or ("rule", key, bar) of found values that are not clean, or None."""
    several = [place for place in sorted(found) if len(found[place]) > 1]
    if several:
        return "place", several[0], list(found[several[0]])
    broken = rulebook.reason(single_book(found))
    if broken is None:
        return None
    key, bar = broken
    return "rule", key, bar


def clean_book(rulebook, found):
    """Return the book of clean found values, or raise PlaceClash or RuleClash."""
    clash = clash_in(rulebook, found)
    if clash is None:
        return single_book(found)
    word, where, what = clash
    if word == "place":
        raise PlaceClash(where, what)
    raise RuleClash(where, what)
