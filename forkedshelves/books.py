"""Books, which give values to places, and the marks that they hold."""


def value_at(book, place):
    """Return the value of a place, which is 0 if the place is empty."""
    return book.get(place, 0)


def with_writes(book, writes):
    """Return the book after the writes."""
    written = dict(book)
    for place, value in writes.items():
        if value == 0:
            written.pop(place, None)
        else:
            written[place] = value
    return written


def changes(base, book):
    """Return the writes that lead from the base to the book and list only places where they differ."""
    places = sorted(set(base) | set(book))
    return {place: value_at(book, place) for place in places if value_at(base, place) != value_at(book, place)}


def holds(book, marks):
    """Tell whether the book holds every one of the marks."""
    return all(value_at(book, place) == value for place, value in marks)
