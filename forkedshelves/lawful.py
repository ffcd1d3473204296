"""Refusing books that are not lawful."""

from forkedshelves.errors import Unlawful


def check_lawful(rulebook, book):
    """Raise Unlawful if the book breaks a rule."""
    broken = rulebook.reason(book)
    if broken is not None:
        key, bar = broken
        raise Unlawful(key, bar)
