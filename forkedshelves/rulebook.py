"""Rule books: rules under keys, and what makes a book lawful."""

from forkedshelves.errors import RepeatedKey


def _mates_by_place(rules):
    """Return for each place of the rules the ascending list of the places that share a rule with it."""
    found = {}
    for rule in rules:
        for place in rule.places:
            found.setdefault(place, []).extend(rule.places)
    return {place: [mate for mate in sorted(set(found[place])) if mate != place] for place in found}


class RuleBook:
    """A list of rules, each under a key of its own."""

    def __init__(self, rules):
        seen = set()
        for key, _ in rules:
            if key in seen:
                raise RepeatedKey(key)
            seen.add(key)
        self._pairs = [(key, rule) for key, rule in rules]
        self._mates = _mates_by_place([rule for _, rule in rules])

    def __iter__(self):
        """Go over the pairs (key, rule) in order."""
        return iter(self._pairs)

    def largest_width(self):
        """Return the largest width of the rules, but at least 2."""
        return max([2] + [rule.width for _, rule in self._pairs])

    def reason(self, book):
        """Return (key, bar) of the first rule that the book breaks, or None if the book is lawful."""
        for key, rule in self._pairs:
            bar = rule.reason(book)
            if bar is not None:
                return key, bar
        return None

    def reasons(self, book):
        """Return the list of (key, bar) of all rules that the book breaks, in order."""
        return [(key, rule.reason(book)) for key, rule in self._pairs if not rule.keeps(book)]

    def is_lawful(self, book):
        """Tell whether the book keeps every rule."""
        return all(rule.keeps(book) for _, rule in self._pairs)

    def mates(self, place):
        """Return the ascending list of the other places that share a rule with the place."""
        return list(self._mates.get(place, []))

    def wide_key(self):
        """Return the key of the first rule whose width is above 2, or None."""
        for key, rule in self._pairs:
            if rule.width > 2:
                return key
        return None

    def bars_with(self, first, second):
        """Return the keys of the rules of which the two marks, in ascending order, are a bar."""
        bar = tuple(sorted([first, second]))
        return [key for key, rule in self._pairs if rule.is_bar(bar)]
