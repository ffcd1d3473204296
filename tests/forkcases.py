"""Random forks over a small world, and what the document says of their parts, tried out on all sets of places."""

from itertools import combinations

from forkedshelves.forks import Fork
from forkedshelves.listed import Ban
from forkedshelves.nests import Nest
from forkedshelves.pairs import Apart, Match, Needs, Order
from forkedshelves.rulebook import RuleBook
from forkedshelves.sums import AtLeast, AtMost, Total
from tests.helpers import all_books

PLACES = list(range(5))
BOOKS = list(all_books(PLACES, [0, 1, 2]))


def narrow_rules(chance):
    """A rule book over the places 0 to 4 without a bar of more than two marks."""
    def some(many):
        return chance.sample(PLACES, many)

    def bar():
        return [(place, chance.randint(0, 2)) for place in some(chance.randint(1, 2))]

    rules = [("apart", Apart(some(3))), ("needs", Needs([tuple(some(2)) for _ in range(chance.randint(1, 3))])),
             ("match", Match(*some(1), [1, 0], 4, [0, 2]) if chance.random() < 0.1 else Order(*some(2), 1)),
             ("total", Total(some(2), 3)), ("most", AtMost(some(3), 1)), ("least", AtLeast(some(3), 2)),
             ("nest", Nest(some(2))), ("ban", Ban([bar() for _ in range(3)]))]
    return RuleBook(chance.sample(rules, chance.randint(0, 3)))


def random_fork_pair(chance):
    """Two forks of one base, with the books that they were made of."""
    while True:
        try:
            rules = narrow_rules(chance)
        except ValueError:
            continue
        lawful = [book for book in BOOKS if rules.is_lawful(book)]
        if lawful:
            base, first, second = [chance.choice(lawful) for _ in "abc"]
            return rules, base, first, second, Fork(rules, base, first), Fork(rules, base, second)


def model_changed(base, book):
    return sorted(place for place in {*base, *book} if base.get(place, 0) != book.get(place, 0))


def model_book(base, book, places):
    """The base with the changes of some places."""
    changed = {**base, **{place: book.get(place, 0) for place in places}}
    return {place: value for place, value in changed.items() if value > 0}


def model_parts(rules, base, book):
    """All sets of changed places whose books are lawful, as tuples in the order of point 45."""
    changed = model_changed(base, book)
    sets = [chosen for many in range(len(changed) + 1) for chosen in combinations(changed, many)]
    return [chosen for chosen in sets if rules.is_lawful(model_book(base, book, chosen))]


def model_smallest(parts, places):
    """The smallest part that contains some places."""
    return min([part for part in parts if set(places) <= set(part)], key=len)


def model_clashes(rules, base, first, second):
    pairs = []
    for x in model_changed(base, first):
        for y in model_changed(base, second):
            marks = tuple(sorted([(x, first.get(x, 0)), (y, second.get(y, 0))]))
            if first.get(x, 0) != second.get(x, 0) if x == y else any(rule.is_bar(marks) for _, rule in rules):
                pairs.append((x, y))
    return pairs


def model_keepings(rules, base, first, second):
    """All pairs of tuples of places of two parts, one of each fork, between which nothing clashes."""
    clashes = model_clashes(rules, base, first, second)
    return [(one, other) for one in model_parts(rules, base, first) for other in model_parts(rules, base, second)
            if not any(x in one and y in other for x, y in clashes)]


def best_keepings(keepings):
    """Those that leave out as few changes as possible."""
    most = max(len(one) + len(other) for one, other in keepings)
    return [(one, other) for one, other in keepings if len(one) + len(other) == most]


def graph_forks(edges, first_needs=(), second_needs=()):
    """Two forks that change the places 0 to 4, and 10 to 14, with just these clashes and needs."""
    bans = [[(x, 1), (10 + y, 1)] for x, y in edges]
    needs = [*first_needs, *[(10 + y, 10 + z) for y, z in second_needs]]
    rules = RuleBook([("ban", Ban(bans)), ("needs", Needs(needs))])
    return rules, {}, {x: 1 for x in range(5)}, {10 + y: 1 for y in range(5)}


def random_graph_forks(chance):
    """Two forks of five changes each, with random clashes and needs."""
    def pairs(most):
        return [(chance.randrange(5), chance.randrange(5)) for _ in range(chance.randint(0, most))]

    needs = [[(x, y) for x, y in pairs(3) if x != y] for _ in "ab"]
    case = graph_forks(pairs(7), *needs)
    return *case, Fork(case[0], case[1], case[2]), Fork(case[0], case[1], case[3])


def subsets(things):
    """All sub-lists of a list, as tuples, those with fewer things first."""
    return [chosen for many in range(len(things) + 1) for chosen in combinations(things, many)]
