"""What the document says of papers about histories, put as plainly as its words, and papers that are spoilt."""

from itertools import combinations

from tests.histories import model_clash, model_past


class Reader:
    """Reads papers about a list of nodes."""

    def __init__(self, history, nodes):
        self.history = history
        self.nodes = nodes
        self.past = model_past(history, nodes)
        self.pasts = {node: model_past(history, [node]) for node in history}

    def writes(self, node, place):
        return node == 0 or place in self.history.written(node)

    def value(self, node, place):
        return self.history.written(node).get(place, 0)

    def is_head(self, node, place):
        return (node in self.past and self.writes(node, place)
                and not any(other != node and self.writes(other, place) and node in self.pasts[other]
                            for other in self.past))

    def accepts(self, paper):
        reader = {"clean": self.clean, "place": self.place, "rule": self.rule, "orders": self.orders,
                  "stuck": self.stuck}.get(paper[0])
        return reader is not None and reader(*paper[1:])

    def clean(self, rows):
        places = [place for place, _ in rows]
        later = {place for node in self.past - {0} for place in self.history.written(node)}
        if places != sorted(set(places)) or set(places) != later:
            return False
        book = self.history.book(0)
        for place, heads in rows:
            if not heads or list(heads) != sorted(set(heads)):
                return False
            if not all(node in self.past and self.writes(node, place) for node in heads):
                return False
            if any(one != other and one in self.pasts[other] for one in heads for other in heads):
                return False
            writers = [node for node in self.past if self.writes(node, place)]
            if not all(any(node in self.pasts[head] for head in heads) for node in writers):
                return False
            if len({self.value(node, place) for node in heads}) > 1:
                return False
            book[place] = self.value(heads[0], place)
        return self.history.rulebook.is_lawful({place: value for place, value in book.items() if value})

    def place(self, place, first, second):
        return (self.is_head(first, place) and self.is_head(second, place)
                and self.value(first, place) != self.value(second, place))

    def rule(self, key, bar, writers):
        rules = dict(self.history.rulebook)
        if key not in rules or not rules[key].is_bar(bar) or len(bar) != len(writers):
            return False
        return all(self.is_head(node, place) and self.value(node, place) == value
                   for (place, value), node in zip(bar, writers))

    def kept_book(self, order):
        kept = []
        for tip in order:
            if model_clash(self.history, [*kept, tip]) is None:
                kept.append(tip)
        past = model_past(self.history, kept)
        book = {}
        for place in range(5):
            head = max(node for node in past if self.writes(node, place) and not any(
                other != node and self.writes(other, place) and node in self.pasts[other] for other in past))
            book[place] = self.value(head, place)
        return book

    def orders(self, first, second, place):
        for order in (first, second):
            if not all(node in self.nodes for node in order) or len(set(order)) < len(order):
                return False
        if not first or set(first) != set(second):
            return False
        return self.kept_book(first).get(place, 0) != self.kept_book(second).get(place, 0)

    def stuck(self, family):
        positions = range(len(self.nodes))
        listed = set(family)
        for entry in family:
            if not entry or list(entry) != sorted(set(entry)) or not all(at in positions for at in entry):
                return False
        if not all((at,) in listed for at in positions) or tuple(positions) in listed:
            return False
        for many in range(2, len(self.nodes) + 1):
            for entry in combinations(positions, many):
                smaller = [tuple(at for at in entry if at != gone) for gone in entry]
                if any(one in listed for one in smaller) and entry not in listed:
                    if model_clash(self.history, [self.nodes[at] for at in entry]) is None:
                        return False
        return True


def spoilt_row(chance, row, entry):
    """A tuple with one thing changed: an entry more, one less, another one, or two that are exchanged."""
    row = list(row)
    deeds = ["more", "more"] + ["less", "other", "other", "swap"] * bool(row)
    deed, at = chance.choice(deeds), chance.randrange(len(row)) if row else 0
    if deed == "more":
        row.insert(chance.randint(0, len(row)), chance.choice([*row, entry]))
    elif deed == "less":
        del row[at]
    elif deed == "other":
        row[at] = entry
    else:
        other = chance.randrange(len(row))
        row[at], row[other] = row[other], row[at]
    return tuple(row)


def some_number(chance, history):
    return chance.choice([chance.randint(-2, history.node_count() + 1), chance.randint(0, 4), 0, 1, 300, -300])


def some_numbers(chance, history):
    numbers = [some_number(chance, history) for _ in range(chance.randint(0, 3))]
    return tuple(sorted(numbers) if chance.random() < 0.7 else numbers)


def spoilt(chance, history, paper):
    """A paper of the same form with one thing changed."""
    word, *parts = paper
    at = chance.randrange(len(parts))
    part, number, numbers = parts[at], some_number(chance, history), some_numbers(chance, history)
    if isinstance(part, int):
        parts[at] = number
    elif isinstance(part, str):
        parts[at] = chance.choice(["apart", "needs", "total", "ban", "none"])
    elif word == "clean":
        parts[at] = spoilt_rows(chance, history, part)
    elif word == "stuck":
        parts[at] = spoilt_family(chance, part, numbers, number)
    elif word == "rule" and at == 1:
        parts[at] = spoilt_row(chance, part, (number, chance.randint(-1, 3)))
    else:
        parts[at] = spoilt_row(chance, part, number)
    return (word, *parts)


def spoilt_rows(chance, history, rows):
    if rows and chance.random() < 0.7:
        rows = list(rows)
        at = chance.randrange(len(rows))
        place, heads = rows[at]
        number = some_number(chance, history)
        rows[at] = (number, heads) if chance.random() < 0.3 else (place, spoilt_row(chance, heads, number))
        return rows
    return list(spoilt_row(chance, rows, (some_number(chance, history), some_numbers(chance, history))))


def spoilt_family(chance, family, numbers, number):
    if family and chance.random() < 0.5:
        family = list(family)
        at = chance.randrange(len(family))
        family[at] = spoilt_row(chance, family[at], number)
        return tuple(family)
    return spoilt_row(chance, family, numbers)
