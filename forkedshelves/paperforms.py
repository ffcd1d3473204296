"""The forms of papers about histories: what stands where behind each word."""

FORMS = {
    "clean": ("rows",),
    "place": ("number", "number", "number"),
    "rule": ("word", "marks", "numbers"),
    "orders": ("numbers", "numbers", "number"),
    "stuck": ("lists",),
}


def has_form(paper):
    """Tell whether a paper has one of the words and the form that belongs to it."""
    word, *parts = paper
    if word not in FORMS or len(parts) != len(FORMS[word]):
        return False
    for kind, part in zip(FORMS[word], parts):
        test = TESTS[kind]
        if not test(part):
            return False
    return True


def _is_number(value):
    """Tell whether a value is an integer."""
    return isinstance(value, int)


def _is_word(value):
    """Tell whether a value is a string."""
    return isinstance(value, str)


def _are_numbers(value):
    """Tell whether a value lists integers."""
    return isinstance(value, (list, tuple)) and all(isinstance(number, int) for number in value)


def _are_lists(value):
    """Tell whether a value lists lists of integers."""
    return isinstance(value, (list, tuple)) and all(_are_numbers(row) for row in value)


def _are_marks(value):
    """Tell whether a value lists marks."""
    return _are_lists(value) and all(len(mark) == 2 for mark in value)


def _is_row(value):
    """Tell whether a value is a place with the list of its heads."""
    return isinstance(value, tuple) and len(value) == 2 and isinstance(value[0], int) and _are_numbers(value[1])


def _are_rows(value):
    """Tell whether a value lists rows."""
    return isinstance(value, (list, tuple)) and all(_is_row(row) for row in value)


TESTS = {
    "number": _is_number,
    "word": _is_word,
    "numbers": _are_numbers,
    "lists": _are_lists,
    "marks": _are_marks,
    "rows": _are_rows,
}
