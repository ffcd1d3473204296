"""The kind of rules whose bars are listed."""

from forkedshelves.books import holds
from forkedshelves.errors import EmptyBar
from forkedshelves.marks import check_places, first_bar, shorter_first


def _contains(entry, bar):
    """Tell whether an entry has all marks of a bar."""
    return all(mark in entry for mark in bar)


def _least(entries):
    """Return the entries in their order, each once, without those that contain another one."""
    least = []
    for entry in shorter_first(entries):
        if not any(_contains(entry, bar) for bar in least):
            least.append(entry)
    return least


class Ban:
    """None of the listed bars is held."""

    def __init__(self, bars):
        for position, entry in enumerate(bars):
            if not entry:
                raise EmptyBar(position)
            check_places([place for place, _ in entry])
        self._bars = _least([tuple(sorted(entry)) for entry in bars])
        self.places = tuple(sorted({place for bar in self._bars for place, _ in bar}))
        self.width = max([len(bar) for bar in self._bars], default=0)

    def is_bar(self, marks):
        """Tell whether the marks are a bar of the rule."""
        return marks in self._bars

    def bars_in(self, book):
        """Return the bars that the book holds, in their order."""
        return [bar for bar in self._bars if holds(book, bar)]

    def reason(self, book):
        """Return the first bar that the book holds, or None."""
        return first_bar(self.bars_in(book))

    def keeps(self, book):
        """Tell whether the book keeps the rule."""
        return not any(holds(book, bar) for bar in self._bars)

    def tight_base(self, bar):
        """Return a tight base of a bar: every place has a value that no bar names.

        So a book with a part of the bar holds no other marks of bars, and no bar is a part of another one.
        """
        unnamed = 1 + max([value for listed in self._bars for _, value in listed])
        return {place: unnamed for place in self.places}
