"""Tight forks: as many forks as a bar has marks, of which any but all go together."""

from forkedshelves.books import with_writes
from forkedshelves.errors import NotABar, NotTight


def tight_forks(rule, bar):
    """Return a tight base of a bar of the rule, and for each mark of the bar the base with this mark written."""
    if len(bar) < 2 or not rule.is_bar(bar):
        raise NotABar(bar)
    base = rule.tight_base(bar)
    if base is None:
        raise NotTight(bar)
    return base, [with_writes(base, {place: value}) for place, value in bar]
