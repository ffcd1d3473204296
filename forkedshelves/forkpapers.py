"""Papers about forks: why no fewer changes can be given up, and why changes stay by kept answers."""

from forkedshelves.clashes import clash_pairs
from forkedshelves.fewest import fewest_given_up
from forkedshelves.reach import ways_from
from forkedshelves.settling import settled_changes
from forkedshelves.strikes import all_changes, clashes_between, forks_of, strikes_between


def fewest_paper(first, second):
    """Return the paper that shows that two forks cannot give up fewer changes."""
    given_first, given_second, chosen = fewest_given_up(first, second)
    clashes = clash_pairs(first, second)
    steps_first, steps_second = _followers(first), _followers(second)
    rows = [_row(clashes, ways_from(x, steps_first), ways_from(y, steps_second)) for x, y in chosen]
    return "fewest", tuple(given_first), tuple(given_second), tuple(rows)


def accepts_fewest(first, second, paper):
    """Tell whether a paper shows that two forks cannot give up fewer changes."""
    word, given_first, given_second, rows = paper
    if word != "fewest" or len(rows) != len(given_first) + len(given_second):
        return False
    if not _leaves_part(first, given_first) or not _leaves_part(second, given_second):
        return False
    clashes = clash_pairs(first, second)
    if not all(x in given_first or y in given_second for x, y in clashes):
        return False
    if not _are_disjoint(rows) or not all((xs[-1], ys[-1]) in clashes for xs, ys in rows):
        return False
    return _follow_needs(first, [xs for xs, _ in rows]) and _follow_needs(second, [ys for _, ys in rows])


def settled_paper(rulebook, base, forks, answers):
    """Return the paper that tells of each change whether it stays or what strikes it."""
    made = forks_of(rulebook, base, forks)
    kept, strikes = settled_changes(made, answers)
    rows = []
    for position, place in all_changes(made):
        strikers = [change for change in kept if (position, place) in strikes[change]]
        rows.append((position, place, strikers[0] if strikers else None))
    return tuple(rows)


def accepts_settled(rulebook, base, forks, answers, paper):
    """Tell whether a paper shows which changes stay by kept answers."""
    made = forks_of(rulebook, base, forks)
    if [(position, place) for position, place, _ in paper] != all_changes(made):
        return False
    clashes = clashes_between(made)
    strikes = strikes_between(made, clashes, answers)
    kept = [(position, place) for position, place, striker in paper if striker is None]
    if any(first in kept and second in kept for first, second in clashes):
        return False
    if any(struck in kept for change in kept for struck in strikes[change]):
        return False
    struck_rows = [row for row in paper if row[2] is not None]
    return all(row[2] in kept and row[:2] in strikes[row[2]] for row in struck_rows)


def _row(clashes, ways_first, ways_second):
    """Return one of the ways of each fork such that their last places clash."""
    reached = [(x, y) for x, y in clashes if x in ways_first and y in ways_second]
    last_first, last_second = reached[0]
    return tuple(ways_first[last_first]), tuple(ways_second[last_second])


def _followers(fork):
    """Return for each changed place of a fork the places whose changes its change needs."""
    followers = {place: [] for place in fork.places}
    for place, needed in fork.needs():
        followers[place].append(needed)
    return followers


def _leaves_part(fork, given):
    """Tell whether ascending changed places are given such that the other ones are a part."""
    kept = tuple([place for place in fork.places if place not in given])
    if tuple(sorted([*kept, *given])) != fork.places or list(given) != sorted(given):
        return False
    return fork.part(list(kept)).places == kept


def _are_disjoint(rows):
    """Tell whether no two rows begin with the same place on either side, and no list of places is empty."""
    if not all(xs and ys for xs, ys in rows):
        return False
    return len({xs[0] for xs, _ in rows}) == len(rows) == len({ys[0] for _, ys in rows})


def _follow_needs(fork, ways):
    """Tell whether in each of some ways each place but the last needs the next one."""
    needs = {pair: True for pair in fork.needs()}
    return all(pair in needs for places in ways for pair in zip(places, places[1:]))
