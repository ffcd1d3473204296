"""Desks made again from their journals."""

from forkedshelves.desk import Desk
from forkedshelves.errors import BadLine, BadText, ShelfError
from forkedshelves.lines import read_deed


def read_journal(rulebook, book, lines, *, depth=8):
    """Return a desk on which the deeds of the lines have been done."""
    desk = Desk(rulebook, book, depth=depth)
    # All lines are read before the first deed is done: a line that is no text comes first.
    deeds = [_deed_of(number, line) for number, line in enumerate(lines, start=1)]
    for number, deed in enumerate(deeds, start=1):
        _do(desk, number, deed)
    return desk


def _deed_of(number, line):
    """Return the deed of a line, or raise BadLine if it is no text of a deed."""
    try:
        return read_deed(line)
    except BadText:
        raise BadLine(number) from None


def _do(desk, number, deed):
    """Do a deed that changes something, or raise BadLine."""
    steps = desk.steps()
    try:
        desk.attempt([deed])
    except ShelfError:
        raise BadLine(number) from None
    if desk.steps() == steps:
        raise BadLine(number)
