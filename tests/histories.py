"""Histories for tests, and what the document says of them, put as plainly as its words."""

from copy import deepcopy
from itertools import product

from forkedshelves.errors import NoNode, ShelfError
from forkedshelves.history import History
from forkedshelves.listed import Ban
from forkedshelves.pairs import Apart, Needs
from forkedshelves.rulebook import RuleBook
from forkedshelves.sums import Total
from tests.helpers import WatchedCase

PLACES = range(5)


def snapshot(history):
    """All that a history shows of itself."""
    nodes = [(history.kind(node), history.parents(node), history.written(node), history.book(node))
             for node in range(history.node_count())]
    return [list(history), nodes]


def model_past(history, nodes):
    found = set(nodes)
    for node in nodes:
        found |= model_past(history, history.parents(node))
    return found


def model_heads(history, nodes, place):
    writers = {node for node in model_past(history, nodes) if node == 0 or place in history.written(node)}
    known = {earlier for node in writers for earlier in model_past(history, [node]) - {node}}
    return sorted(writers - known)


def model_found(history, nodes, place):
    return sorted({history.written(head).get(place, 0) for head in model_heads(history, nodes, place)})


def model_clash(history, nodes, places=PLACES):
    book = {}
    for place in places:
        found = model_found(history, nodes, place)
        if len(found) > 1:
            return "place", place, found
        book[place] = found[0]
    broken = history.rulebook.reason({place: value for place, value in book.items() if value})
    return ("rule", *broken) if broken else None


def model_common(history, nodes):
    """The last common nodes."""
    common = set.intersection(*[model_past(history, [node]) for node in nodes])
    return sorted(node for node in common
                  if not any(node in model_past(history, [other]) for other in common - {node}))


def some_rules(chance):
    """A rule book over the places 0 to 4, perhaps without rules."""
    rules = [("apart", Apart(chance.sample(PLACES, chance.randint(2, 3)))),
             ("needs", Needs([tuple(chance.sample(PLACES, 2))])),
             ("total", Total(chance.sample(PLACES, 3), chance.randint(2, 5))),
             ("ban", Ban([[(place, chance.randint(0, 2)) for place in chance.sample(PLACES, 2)]]))]
    return RuleBook(chance.sample(rules, chance.randint(0, 2)))


def random_writes(chance):
    return {chance.choice(PLACES): chance.randint(0, 2) for _ in range(chance.randint(1, 2))}


def random_merge(chance, history, nodes):
    """Merge nodes, perhaps with answers where nothing clashes, and answer the clashes that there are."""
    answers = random_writes(chance) if chance.random() < 0.2 else {}
    for place in PLACES:
        found = model_found(history, nodes, place)
        if len(found) > 1:
            answers[place] = chance.choice([*found, *found, chance.randint(0, 2)])
    return history.merge(nodes, answers=answers)


def random_history(chance, tries=10, rules=None):
    """A history with writes, and with merges with answers and without."""
    rulebook = some_rules(chance) if rules is None else rules
    books = [{place: value for place, value in enumerate(values) if value} for values in product(range(3), repeat=5)]
    history = History(rulebook, chance.choice([book for book in books if rulebook.is_lawful(book)]))
    for _ in range(tries):
        nodes = some_nodes(chance, history)
        try:
            if chance.random() < 0.7:
                history.write(nodes[0], random_writes(chance))
            else:
                random_merge(chance, history, nodes)
        except ShelfError:
            continue
    return history


def later_node(chance, history, node):
    """A node that was made by some writes on a node, or the node itself."""
    for _ in range(chance.randint(0, 2)):
        try:
            node = history.write(node, random_writes(chance))
        except ShelfError:
            continue
    return node


def crossing_tips(chance, rules=None):
    """A history and two of its nodes, which often come from merges that cross."""
    history = random_history(chance, 4, rules)
    sides = [later_node(chance, history, 0), later_node(chance, history, 0)]
    for _ in range(chance.randint(1, 2)):
        tips = []
        for _ in range(2):
            try:
                tips.append(later_node(chance, history, random_merge(chance, history, sides)))
            except ShelfError:
                tips.append(later_node(chance, history, chance.choice(sides)))
        sides = tips
    return history, sides


def some_nodes(chance, history, most=3):
    return [chance.choice(list(history)) for _ in range(chance.randint(1, most))]


class HistoryCase(WatchedCase):
    """Test cases that check that a history stays as it is."""

    def check_on(self, history, expected, function, *args):
        """Check a function that is passed a history first."""
        before = deepcopy(snapshot(history))
        self.check(expected, function, history, *args)
        self.assertEqual(snapshot(history), before)

    def refuse_on(self, history, error, fields, function, *args):
        """Check that a call is refused and that the history stays as it is, and goes on with the next number."""
        before = deepcopy(snapshot(history))
        self.refuse(error, fields, function, *args)
        self.assertEqual(snapshot(history), before)

    def check_missing(self, history, function, *args):
        """Check that a node that takes the place of one of a list is missed, and the first one that is missing.

        The arguments behind the history are lists of nodes and single nodes.
        """
        for wrong in (history.node_count(), history.node_count() + 7, -1, -history.node_count()):
            for at, arg in enumerate(args):
                spots = range(len(arg)) if isinstance(arg, list) else [0]
                for spot in spots:
                    changed = [list(other) if isinstance(other, list) else other for other in args]
                    for later in range(at, len(args)):
                        # All that comes later is missing as well, but it is not the first one.
                        if isinstance(args[later], list):
                            start = spot if later == at else 0
                            changed[later][start:] = [wrong + (0 if later == at and k == 0 else 100)
                                                      for k in range(len(args[later]) - start)]
                        else:
                            changed[later] = wrong if later == at else wrong + 100
                    self.refuse_on(history, NoNode, {"node": wrong}, function, history, *changed)
