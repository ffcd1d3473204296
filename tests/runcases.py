"""Random rule books, runs and choices, and which places two deeds meet at, by the words of the document."""

from forkedshelves.pairs import Apart, Needs
from forkedshelves.rulebook import RuleBook


def random_rulebook(chance):
    """A rule book over the places 0 to 7."""
    rules = [("a", Apart(chance.sample(range(8), chance.randint(0, 3)))),
             ("b", Needs([tuple(chance.sample(range(8), 2)) for _ in range(chance.randint(0, 2))]))]
    return RuleBook(rules)


def random_run(chance, many, places=8):
    return [{chance.randrange(places): chance.randint(0, 2) for _ in range(chance.randint(1, 2))} for _ in range(many)]


def random_choice(chance, run):
    """A choice of positions of a run, in any order."""
    return chance.sample(range(len(run)), chance.randint(0, len(run)))


def leaned_places(rules, deed):
    """The ascending places on which a deed leans."""
    return sorted({mate for place in deed for mate in rules.mates(place)} - set(deed))


def supports(rules, run, position):
    """The pairs (place, position of the deed on which a deed rests there), by point 24."""
    found = []
    for place in leaned_places(rules, run[position]):
        earlier = [at for at in range(position) if place in run[at]]
        if earlier:
            found.append((place, max(earlier)))
    return found


def is_closed(rules, run, choice):
    return all(missing in choice for position in choice for _, missing in supports(rules, run, position))
