"""Rules of all nine kinds, each with what the document says of it, written down a second time.

A case has a rule, its places and width, a function that tells whether ascending marks of different
places are a bar, and a function that tells whether a book keeps the rule, in the words of the kind.
"""

from forkedshelves.listed import Ban
from forkedshelves.nests import Nest
from forkedshelves.pairs import Apart, Match, Needs, Order
from forkedshelves.sums import AtLeast, AtMost, Total


class RuleCase:
    def __init__(self, name, rule, places, width, is_bar, keeps):
        self.name = name
        self.rule = rule
        self.places = places
        self.width = width
        self.is_bar = is_bar
        self.keeps = keeps


def at(book, place):
    return book.get(place, 0)


def within(marks, places):
    return all(place in places for place, _ in marks)


def apart(places, width):
    def is_bar(marks):
        return len(marks) == 2 and within(marks, places) and marks[0][1] == marks[1][1] != 0

    def keeps(book):
        return not any(at(book, x) == at(book, y) != 0 for x in places for y in places if x < y)

    return RuleCase(f"Apart {places}", Apart(list(places)), tuple(places), width, is_bar, keeps)


def needs(pairs, places, width):
    def is_bar(marks):
        table = dict(marks)
        return len(marks) == 2 and any(
            sorted(table) == sorted([x, y]) and table[x] > 0 and table[y] == 0 for x, y in pairs)

    def keeps(book):
        return all(at(book, y) > 0 for x, y in pairs if at(book, x) > 0)

    return RuleCase(f"Needs {pairs}", Needs(list(pairs)), places, width, is_bar, keeps)


def match(first, values, second, allowed, width):
    def is_bar(marks):
        table = dict(marks)
        return (len(marks) == 2 and sorted(table) == sorted([first, second])
                and table[first] in values and table[second] not in allowed)

    def keeps(book):
        return at(book, second) in allowed if at(book, first) in values else True

    rule = Match(first, list(values), second, list(allowed))
    return RuleCase(f"Match {first, values, second, allowed}", rule, (first, second), width, is_bar, keeps)


def order(first, second, gap):
    def is_bar(marks):
        table = dict(marks)
        return (len(marks) == 2 and sorted(table) == sorted([first, second])
                and min(table.values()) > 0 and table[second] - table[first] < gap)

    def keeps(book):
        return at(book, first) == 0 or at(book, second) == 0 or at(book, second) - at(book, first) >= gap

    return RuleCase(f"Order {first, second, gap}", Order(first, second, gap), (first, second), 2, is_bar, keeps)


def total(places, high, width):
    def is_bar(marks):
        values = [value for _, value in marks]
        return (len(marks) > 0 and within(marks, places) and min(values) > 0 and sum(values) > high
                and all(sum(values) - value <= high for value in values))

    def keeps(book):
        return sum(at(book, place) for place in places) <= high

    return RuleCase(f"Total {places, high}", Total(list(places), high), tuple(places), width, is_bar, keeps)


def at_most(places, many, width):
    def is_bar(marks):
        return len(marks) == many + 1 and within(marks, places) and all(value > 0 for _, value in marks)

    def keeps(book):
        return sum(at(book, place) > 0 for place in places) <= many

    return RuleCase(f"AtMost {places, many}", AtMost(list(places), many), tuple(places), width, is_bar, keeps)


def at_least(places, many, width):
    def is_bar(marks):
        return (many > 0 and len(marks) == len(places) - many + 1 and within(marks, places)
                and all(value == 0 for _, value in marks))

    def keeps(book):
        return sum(at(book, place) > 0 for place in places) >= many

    return RuleCase(f"AtLeast {places, many}", AtLeast(list(places), many), tuple(places), width, is_bar, keeps)


def nest(places, width):
    def parent(book, place):
        number = at(book, place)
        return places[number - 1] if 1 <= number <= len(places) else None

    def walk(book, place, steps):
        for _ in range(steps):
            place = None if place is None else parent(book, place)
        return place

    def is_bar(marks):
        if not marks or not within(marks, places):
            return False
        reached = {walk(dict(marks), marks[0][0], steps) for steps in range(len(marks))}
        return reached == {place for place, _ in marks} and walk(dict(marks), marks[0][0], len(marks)) == marks[0][0]

    def keeps(book):
        return all(walk(book, place, len(places) + 1) is None for place in places)

    return RuleCase(f"Nest {places}", Nest(list(places)), tuple(places), width, is_bar, keeps)


def ban(entries, places, width):
    listed = [frozenset(entry) for entry in entries]

    def is_bar(marks):
        return frozenset(marks) in listed and not any(entry < frozenset(marks) for entry in listed)

    def keeps(book):
        return not any(all(at(book, place) == value for place, value in entry) for entry in entries)

    return RuleCase(f"Ban {entries}", Ban(list(entries)), places, width, is_bar, keeps)


def bound_cases():
    """Rules that count or add up, at both ends of their bounds."""
    return [
        total([], 0, 0), total([4], 0, 1), total([4], 2, 1), total([4, 1], 0, 1), total([4, 1], 1, 2),
        total([4, 1, 6], 0, 1), total([4, 1, 6], 1, 2), total([4, 1, 6], 2, 3), total([4, 1, 6], 3, 3),
        total([6, 4, 1], 5, 3), total([1, 4, 6], 8, 3), total([1, 4, 6], 100000, 3),
        at_most([], 0, 0), at_most([], 1, 0), at_most([4], 0, 1), at_most([4], 1, 0), at_most([4, 1], 1, 2),
        at_most([6, 1, 4], 0, 1), at_most([6, 1, 4], 1, 2), at_most([6, 1, 4], 2, 3), at_most([6, 1, 4], 3, 0),
        at_most([6, 1, 4], 100000, 0),
        at_least([], 0, 0), at_least([4], 0, 0), at_least([4], 1, 1), at_least([4, 1], 1, 2),
        at_least([6, 1, 4], 0, 0), at_least([6, 1, 4], 1, 3), at_least([6, 1, 4], 2, 2), at_least([6, 1, 4], 3, 1),
    ]


def pair_cases():
    """Rules whose bars have two marks."""
    return [
        apart([], 0), apart([4], 0), apart([4, 1], 2), apart([6, 1, 4], 2), apart([4, 6, 1, 0], 2),
        needs([], (), 0), needs([(4, 1)], (4, 1), 2), needs([(1, 4)], (1, 4), 2),
        needs([(4, 1), (4, 1)], (4, 1), 2), needs([(4, 1), (1, 4)], (4, 1), 2),
        needs([(6, 1), (4, 6)], (6, 1, 4), 2), needs([(4, 1), (4, 6), (1, 6)], (4, 1, 6), 2),
        needs([(4, 1), (1, 6), (6, 4)], (4, 1, 6), 2),
        match(4, [1, 2], 1, [3], 2), match(1, [1, 2], 4, [3], 2), match(4, [], 1, [1], 0), match(4, [0], 1, [2], 2),
        match(4, [1], 1, [0], 2), match(1, [0, 2, 0, 2], 6, [1, 1, 0], 2), match(1, [1], 6, [1], 2),
        match(6, [0, 1, 2, 3], 0, [0, 1, 2, 3], 2),
        order(1, 4, 0), order(4, 1, 0), order(1, 4, 1), order(4, 1, 2), order(1, 4, -1), order(4, 1, -2),
        order(6, 1, 9999), order(1, 6, -9999),
    ]


def other_cases():
    """Nests and bans."""
    return [
        nest([], 0), nest([4], 1), nest([4, 1], 2), nest([1, 4], 2), nest([6, 1, 4], 3), nest([4, 1, 6, 0], 4),
        ban([], (), 0), ban([[(4, 1)]], (4,), 1), ban([[(4, 1), (1, 2)]], (1, 4), 2),
        ban([((4, 1), (1, 2)), [(1, 2), (4, 1)]], (1, 4), 2),
        ban([[(6, 1), (4, 2), (1, 3)], [(1, 3), (4, 2)]], (1, 4), 2),
        ban([[(4, 2)], [(6, 1), (4, 2), (1, 3)], ((4, 2), (1, 1))], (4,), 1),
        ban([[(1, 0), (4, 0)], [(4, 0), (6, 0)], [(1, 0)], [(1, 1), (4, 1), (6, 1)]], (1, 4, 6), 3),
        ban([[(1, 1), (4, 1)], [(4, 1), (6, 1)], [(6, 1), (1, 1)]], (1, 4, 6), 2),
        ban([[(1, 1)], [(1, 2)], [(1, 3)]], (1,), 1),
        ban([[(6, 1), (4, 2), (1, 3)], [(1, 3), (4, 2)], [(4, 2)]], (4,), 1),
    ]


def all_cases():
    return pair_cases() + bound_cases() + other_cases()
