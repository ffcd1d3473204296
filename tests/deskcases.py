"""A desk put as plainly as the words of points 74 to 78, which does all its steps again where one is taken back."""

from copy import deepcopy

from forkedshelves.answers import Answers
from forkedshelves.books import value_at
from forkedshelves.desk import Desk
from forkedshelves.errors import BadDeed, ForkExists, LastFork, NoFork, OpenFold, ShelfError
from forkedshelves.folds import fold
from forkedshelves.forks import Fork
from forkedshelves.history import History
from forkedshelves.settling import settled_book
from tests.helpers import WatchedCase
from tests.histories import model_found, model_past, snapshot

NAMES = ["main", "side", "other", "third", "gone"]
WORDS = ["fork", "drop", "write", "merge", "settle", "carry", "prefer", "forget"]


class ModelDesk:
    def __init__(self, rulebook, book):
        self.start = rulebook, book
        self.done, self.undone = [], []
        self.replay()

    def replay(self):
        """Do all steps from the beginning."""
        self.history = History(*self.start)
        self.tips = {"main": 0}
        self.answers = Answers()
        for step in self.done:
            for deed in step:
                self.do(deed)

    def tip(self, name):
        if name not in self.tips:
            raise NoFork(name)
        return self.tips[name]

    def step(self, deeds):
        """Do deeds as one step, all or none, and return their results."""
        results, changing = [], []
        try:
            for position, deed in enumerate(deeds):
                if deed[0] not in WORDS:
                    raise BadDeed(position)
                result, changed = self.do(deed)
                results.append(result)
                changing += [deed] * changed
        except ShelfError:
            self.replay()
            raise
        if changing:
            self.done.append(deepcopy(changing))
            self.undone = []
        return results

    def do(self, deed):
        return getattr(self, f"do_{deed[0]}")(*deed[1:])

    def move(self, name, node):
        self.tips[name] = node
        return node, True

    def do_fork(self, name, source):
        tip = self.tip(source)
        if name in self.tips:
            raise ForkExists(name)
        return self.move(name, tip)

    def do_drop(self, name):
        self.tip(name)
        if len(self.tips) == 1:
            raise LastFork(name)
        del self.tips[name]
        return None, True

    def do_write(self, name, writes):
        return self.move(name, self.history.write(self.tip(name), writes))

    def do_merge(self, name, others, answers):
        tips = [self.tip(name)] + [self.tip(other) for other in others]
        if not answers:
            if set(tips) <= model_past(self.history, [tips[0]]):
                return tips[0], False
            for tip in tips[1:]:
                if set(tips) <= model_past(self.history, [tip]):
                    return self.move(name, tip)
        return self.move(name, self.history.merge(tips, answers=answers))

    def do_settle(self, name, other):
        tips = [self.tip(name), self.tip(other)]
        base = self.closed_fold(tips)
        books = [self.history.book(tip) for tip in tips]
        book = settled_book(self.history.rulebook, base, books, self.answers)
        answers = {place: value_at(book, place) for place in range(10)
                   if model_found(self.history, tips, place) != [value_at(book, place)]}
        return self.move(name, self.history.merge(tips, answers=answers))

    def do_carry(self, name, source, places):
        tips = [self.tip(name), self.tip(source)]
        base = self.closed_fold(tips)
        book = self.history.book(tips[1])
        part = Fork(self.history.rulebook, base, book).part(places)
        return self.do_write(name, {place: value_at(book, place) for place in part.places})

    def closed_fold(self, tips):
        base, open_values = fold(self.history, tips)
        if open_values:
            raise OpenFold(min(open_values))
        return base

    def do_prefer(self, winner, loser):
        is_new = not self.answers.prefers(winner, loser)
        self.answers.prefer(winner, loser)
        return is_new, is_new

    def do_forget(self, winner, loser):
        found = self.answers.forget(winner, loser)
        return found, found

    def undo(self):
        self.undone.append(self.done.pop())
        self.replay()

    def redo(self):
        self.done.append(self.undone.pop())
        self.replay()

    def view(self):
        """All that a desk shows, but for the journal."""
        books = {name: self.history.book(tip) for name, tip in self.tips.items()}
        return [sorted(self.tips), self.tips, books, snapshot(self.history), list(self.answers), len(self.done),
                len(self.undone)]

    def lines(self):
        return [model_text(deed) for step in self.done for deed in step]


def model_text(deed):
    """The text of a deed, part by part."""
    texts = []
    for part in deed:
        if isinstance(part, str):
            texts.append(part)
        elif isinstance(part, tuple):
            texts.append(f"{part[0]}={part[1]}")
        elif isinstance(part, dict):
            texts.append(",".join(f"{place}={part[place]}" for place in sorted(part)) or "*")
        elif deed[0] == "merge":
            texts.append(",".join(part))
        else:
            texts.append(",".join(str(place) for place in sorted(set(part))) or "*")
    return " ".join(texts)


def view(desk):
    """All that a desk shows, but for the journal and the parts of its trees."""
    names = desk.names()
    return [names, {name: desk.tip(name) for name in names}, {name: desk.book(name) for name in names},
            snapshot(desk.history()), list(desk.answers()), desk.steps(), desk.undone()]


def whole_view(desk):
    return [*view(desk), desk.journal(), desk.part_count()]


def call_deed(desk, deed):
    """Do a deed by its method."""
    word, *args = deed
    if word == "merge":
        return desk.merge(*args[:2], answers=args[2])
    return getattr(desk, word)(*args)


def random_deed(chance, desk):
    """A deed, which often can be done."""
    names = desk.names()
    some = [*names, *names, *names, chance.choice(NAMES)]
    word = chance.choice([*WORDS, *WORDS[2:], "fork", "fork", "write", "write", "write", "merge", "carry"])
    name = chance.choice(some)
    other = chance.choice([known for known in some if known != name] or some)
    writes = {chance.randrange(5): chance.randint(0, 2) for _ in range(chance.choice([0, 1, 1, 1, 2]))}
    if word == "fork":
        return word, chance.choice(NAMES), name
    if word == "drop":
        return word, name
    if word == "write":
        return word, name, writes
    if word == "merge":
        others = [chance.choice(some) for _ in range(chance.choice([1, 1, 2, 3]))]
        return word, name, others, chance.choice([{}, {}, writes])
    if word == "settle":
        return word, name, other
    if word == "carry":
        changed = [place for place in range(5) if other in names
                   and desk.book(other).get(place, 0) != desk.book(names[0]).get(place, 0)]
        places = changed if changed and chance.random() < 0.8 else list(range(5))
        return word, name, other, [chance.choice(places) for _ in range(chance.choice([0, 1, 1, 2]))]
    place, value = chance.randrange(5), chance.randint(0, 2)
    loser = place if chance.random() < 0.7 else chance.randrange(5)
    return word, (place, value), (loser, (value + chance.randint(0, 2)) % 3)


class DeskCase(WatchedCase):
    """Test cases that check that a desk stays as it is."""

    desk: Desk

    def refuse_deed(self, error, fields, *deed):
        """Check that a deed is refused by its method and in an attempt, and changes nothing."""
        before = deepcopy(whole_view(self.desk))
        self.refuse(error, fields, lambda *parts: call_deed(self.desk, parts), *deed)
        self.assertEqual(whole_view(self.desk), before)
        self.refuse(error, fields, self.desk.attempt, [deed])
        self.assertEqual(whole_view(self.desk), before)

    def idle(self, result, *deed):
        """Check that a deed changes nothing, and what it returns."""
        before = deepcopy(whole_view(self.desk))
        for found in (call_deed(self.desk, deed), self.desk.attempt([deed])[0]):
            self.assertEqual(found, result)
            self.assertIs(type(found), type(result))
            self.assertEqual(whole_view(self.desk), before)

    def step(self, result, *deed):
        """Check that a deed is one step, and what it returns."""
        steps, lines = self.desk.steps(), self.desk.journal()
        passed = deepcopy(deed)
        found = call_deed(self.desk, deed)
        self.assertEqual(deed, passed)
        self.assertEqual(found, result)
        self.assertIs(type(found), type(result))
        self.assertEqual([self.desk.steps(), self.desk.journal()], [steps + 1, [*lines, model_text(deed)]])
