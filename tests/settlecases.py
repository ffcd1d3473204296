"""Forks that are settled by kept answers, and what the document says of them, tried out on all sets of changes."""

from itertools import permutations

from forkedshelves.answers import Answers
from forkedshelves.listed import Ban
from forkedshelves.pairs import Needs
from forkedshelves.rulebook import RuleBook
from tests.forkcases import (BOOKS, graph_forks, model_changed, model_clashes, model_parts, model_smallest, narrow_rules,
                             subsets)


def model_changes(base, books):
    """All changes (position, place) in ascending order."""
    return [(at, place) for at, book in enumerate(books) for place in model_changed(base, book)]


def model_mark(books, change):
    position, place = change
    return place, books[position].get(place, 0)


def clashing_changes(rules, base, books):
    """All pairs of changes of two forks that clash, in the order of point 63."""
    return [((i, x), (j, y)) for i in range(len(books)) for j in range(i + 1, len(books))
            for x, y in model_clashes(rules, base, books[i], books[j])]


def model_strikes(rules, base, books, answers):
    """All pairs of changes of which the first one strikes the second one."""
    recorded = set(answers)
    clashes = clashing_changes(rules, base, books)
    beats = {(winner, loser) for pair in clashes for winner, loser in (pair, pair[::-1])
             if (model_mark(books, winner), model_mark(books, loser)) in recorded}
    strikes = set()
    for at, book in enumerate(books):
        parts = model_parts(rules, base, book)
        for place in model_changed(base, book):
            needed = [(at, other) for other in model_smallest(parts, [place])]
            strikes |= {(winner, (at, place)) for winner, loser in beats if loser in needed}
    return strikes


def model_unanswered(rules, base, books, answers):
    """The marks of the first clash without an answer, or None."""
    recorded = set(answers)
    for pair in clashing_changes(rules, base, books):
        first, second = [model_mark(books, change) for change in pair]
        if (first, second) not in recorded and (second, first) not in recorded:
            return first, second
    return None


def rings_of(strikes, most):
    """All rings of at most so many changes, as tuples."""
    changes = sorted({change for pair in strikes for change in pair})
    return [ring for many in range(1, most + 1) for ring in permutations(changes, many)
            if all(pair in strikes for pair in zip(ring, ring[1:] + ring[:1]))]


def has_ring(strikes):
    """Whether there is a ring: what is left when all that nothing left strikes has gone."""
    left = {change for pair in strikes for change in pair}
    while True:
        struck = {loser for winner, loser in strikes if winner in left and loser in left}
        if struck == left:
            return bool(left)
        left = struck


def model_kept_sets(strikes, changes):
    """All sets of changes in which a change is exactly if no change of the set strikes it."""
    return [kept for kept in subsets(changes)
            if all((change in kept) != any((other, change) in strikes for other in kept) for change in changes)]


def by_forks(kept, many):
    """A set of changes as a list of lists of places, one for each fork."""
    return [sorted(place for at, place in kept if at == position) for position in range(many)]


def random_answers(chance, rules, base, books, share=1.0):
    """Answers for the clashes of forks, for all of them or for a share, and some that no fork asks for."""
    answers = Answers()
    for pair in clashing_changes(rules, base, books):
        marks = [model_mark(books, change) for change in pair]
        if chance.random() < share and not answers.prefers(marks[1], marks[0]):
            if answers.prefers(*marks) or chance.random() < 0.5:
                answers.prefer(*marks)
            else:
                answers.prefer(*marks[::-1])
    answers.prefer((70, chance.randint(0, 2)), (71, 5))
    return answers


def contest(chance):
    """Three or four forks that write different values to one or two places."""
    rules = RuleBook([("needs", Needs([(1, 0)] if chance.random() < 0.5 else []))])
    many = chance.randint(3, 4)
    books = [{0: value} for value in chance.sample(range(1, 5), many)]
    for book in chance.sample(books, chance.randint(0, 2)):
        book[1] = chance.randint(1, 2)
    return rules, {}, books


def sparse_contest(chance):
    """Five forks of one or two changes each, some of which clash with some of another fork."""
    many = [chance.randint(1, 2) for _ in range(5)]
    places = [[10 * at + side for side in range(many[at])] for at in range(5)]
    bans = []
    for at in range(5):
        for other in range(at):
            if chance.random() < 0.5:
                bans.append([(chance.choice(places[at]), 1), (chance.choice(places[other]), 1)])
    return RuleBook([("ban", Ban(bans))]), {}, [{place: 1 for place in row} for row in places]


def random_settling(chance, most=9):
    """A rule book, a base and the books of one to four forks with not too many changes together."""
    while True:
        if chance.random() < 0.3:
            return contest(chance)
        if chance.random() < 0.3:
            needs = [[(x, y) for x, y in [(chance.randrange(5), chance.randrange(5))] if x != y] for _ in "ab"]
            edges = [(chance.randrange(5), chance.randrange(5)) for _ in range(4)]
            rules, base, first, second = graph_forks(edges, *needs)
            return rules, base, [first, second] if chance.random() < 0.5 else [second, first]
        try:
            rules = narrow_rules(chance)
        except ValueError:
            continue
        lawful = [book for book in BOOKS if rules.is_lawful(book)]
        if lawful:
            base = chance.choice(lawful)
            books = [chance.choice(lawful) for _ in range(chance.randint(1, 4))]
            if len(model_changes(base, books)) <= most:
                return rules, base, books
