"""Texts of deeds."""

from forkedshelves.errors import BadText

FORMS = {
    "fork": ("name", "name"),
    "drop": ("name",),
    "write": ("name", "writes"),
    "merge": ("name", "names", "writes"),
    "settle": ("name", "name"),
    "carry": ("name", "name", "places"),
    "prefer": ("mark", "mark"),
    "forget": ("mark", "mark"),
}
LONGEST_NAME = 20
LONGEST_NUMBER = 6


def deed_text(deed):
    """Return the text of a deed."""
    word, *args = deed
    texts = [word]
    for kind, arg in zip(FORMS[word], args):
        told = TELLERS[kind]
        texts.append(told(arg))
    return " ".join(texts)


def read_deed(text):
    """Return the deed that has a text."""
    word, *parts = text.split(" ")
    if word not in FORMS or len(parts) != len(FORMS[word]):
        raise BadText()
    deed = [word]
    for kind, part in zip(FORMS[word], parts):
        reader = READERS[kind]
        deed.append(reader(part))
    return tuple(deed)


def _tell_name(name):
    """Return the text of a name."""
    return name


def _tell_names(names):
    """Return the text of a list of names."""
    return ",".join(names)


def _tell_mark(mark):
    """Return the text of a mark."""
    place, value = mark
    return f"{place}={value}"


def _tell_writes(writes):
    """Return the text of writes."""
    return ",".join([_tell_mark(mark) for mark in sorted(writes.items())]) or "*"


def _tell_places(places):
    """Return the text of a list of places."""
    return ",".join([str(place) for place in sorted(set(places))]) or "*"


def _read_name(text):
    """Return the name that has a text."""
    if 0 < len(text) <= LONGEST_NAME and all("a" <= sign <= "z" for sign in text):
        return text
    raise BadText()


def _read_names(text):
    """Return the list of names that has a text."""
    return [_read_name(part) for part in text.split(",")]


def _read_number(text):
    """Return the number that has a text."""
    if len(text) <= LONGEST_NUMBER and text.isdecimal() and str(int(text)) == text:
        return int(text)
    raise BadText()


def _read_mark(text):
    """Return the mark that has a text."""
    place, _, value = text.partition("=")
    return _read_number(place), _read_number(value)


def _read_writes(text):
    """Return the writes that have a text."""
    if text == "*":
        return {}
    marks = [_read_mark(part) for part in text.split(",")]
    _check_ascending([place for place, _ in marks])
    return dict(marks)


def _read_places(text):
    """Return the list of places that has a text."""
    if text == "*":
        return []
    places = [_read_number(part) for part in text.split(",")]
    _check_ascending(places)
    return places


def _check_ascending(places):
    """Raise BadText unless places are in ascending order without duplicates."""
    if places != sorted(set(places)):
        raise BadText()


TELLERS = {
    "name": _tell_name,
    "names": _tell_names,
    "mark": _tell_mark,
    "writes": _tell_writes,
    "places": _tell_places,
}
READERS = {
    "name": _read_name,
    "names": _read_names,
    "mark": _read_mark,
    "writes": _read_writes,
    "places": _read_places,
}
