"""Random forks over a small world, and what the document says of their parts, tried out on all sets of places."""

from itertools import combinations

from forkedshelves.forks import Fork
from forkedshelves.listed import Ban
from forkedshelves.nests import Nest
from forkedshelves.pairs import Apart, Match, Needs, Order
from forkedshelves.rulebook import RuleBook
from forkedshelves.sums import AtLeast, AtMost, Total
from tests.helpers import all_books

PLACES = list(range(5))
BOOKS = list(all_books(PLACES, [0, 1, 2]))


def narrow_rules(chance):
    """A rule book over the places 0 to 4 without a bar of more than two marks."""
    def some(many):
        return chance.sample(PLACES, many)

    def bar():
        return [(place, chance.randint(0, 2)) for place in some(chance.randint(1, 2))]

    rules = [("apart", Apart(some(3))), ("needs", Needs([tuple(some(2)) for _ in range(chance.randint(1, 3))])),
             ("match", Match(*some(1), [1, 0], 4, [0, 2]) if chance.random() < 0.1 else Order(*some(2), 1)),
             ("total", Total(some(2), 3)), ("most", AtMost(some(3), 1)), ("least", AtLeast(some(3), 2)),
             ("nest", Nest(some(2))), ("ban", Ban([bar() for _ in range(3)]))]
    return RuleBook(chance.sample(rules, chance.randint(0, 3)))


def random_fork_pair(chance):
    """Two forks of one base, with the books that they were made of."""
    while True:
        try:
            rules = narrow_rules(chance)
        except ValueError:
            continue
        lawful = [book for book in BOOKS if rules.is_lawful(book)]
        if lawful:
            base, first, second = [chance.choice(lawful) for _ in "abc"]
            return rules, base, first, second, Fork(rules, base, first), Fork(rules, base, second)


def model_changed(base, book):
    return sorted(place for place in {*base, *book} if base.get(place, 0) != book.get(place, 0))


def model_book(base, book, places):
    """The base with the changes of some places."""
    changed = {**base, **{place: book.get(place, 0) for place in places}}
    return {place: value for place, value in changed.items() if value > 0}


def model_parts(rules, base, book):
    """All sets of changed places whose books are lawful, as tuples in the order of point 45."""
    changed = model_changed(base, book)
    sets = [chosen for many in range(len(changed) + 1) for chosen in combinations(changed, many)]
    return [chosen for chosen in sets if rules.is_lawful(model_book(base, book, chosen))]


def model_smallest(parts, places):
    """The smallest part that contains some places."""
    return min([part for part in parts if set(places) <= set(part)], key=len)
