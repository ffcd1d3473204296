"""Items, which have a position and a content at places of their own, so that they can move."""

from forkedshelves.books import value_at
from forkedshelves.pairs import Apart, Needs
from forkedshelves.rulebook import RuleBook


def item_rules(count):
    """Return the rule book of the items 1 to count."""
    pairs = []
    for item in range(1, count + 1):
        position, content = _places(item)
        pairs.extend([(position, content), (content, position)])
    positions = [_places(item)[0] for item in range(1, count + 1)]
    return RuleBook([("apart", Apart(positions)), ("whole", Needs(pairs))])


def arrange(book, count):
    """Return the dictionary from each position of one of the items 1 to count to the tuple (item, content)."""
    arrangement = {}
    for item in range(1, count + 1):
        position, content = [value_at(book, place) for place in _places(item)]
        if position > 0:
            arrangement[position] = (item, content)
    return arrangement


def placing(item, position, content):
    """Return the writes that give an item a position and a content."""
    place, content_place = _places(item)
    return {place: position, content_place: content}


def moving(item, position):
    """Return the writes that give an item another position."""
    return {_places(item)[0]: position}


def changing(item, content):
    """Return the writes that give an item another content."""
    return {_places(item)[1]: content}


def removing(item):
    """Return the writes after which an item stands nowhere."""
    return placing(item, 0, 0)


def _places(item):
    """Return the place of the position of an item and that of its content."""
    return 2 * item, 2 * item + 1
