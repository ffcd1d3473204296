"""All errors that the program raises. Each field of an error is an attribute of the same name."""


class ShelfError(ValueError):
    """The base class of all errors that the program raises."""


class RuleError(ShelfError):
    """Rules that cannot be made, and books or runs that break them."""


class ClashError(ShelfError):
    """Things that do not go together."""


class MissingError(ShelfError):
    """Something that was named does not exist."""


class DeedError(ShelfError):
    """A deed that cannot be done."""


class TextError(ShelfError):
    """A text that cannot be read."""


class RepeatedPlace(RuleError):
    """A place occurs twice where it may occur once."""

    def __init__(self, place):
        super().__init__(f"place {place} occurs earlier")
        self.place = place


class EmptyChoice(RuleError):
    """No value is allowed."""

    def __init__(self):
        super().__init__("no value is allowed")


class BadBound(RuleError):
    """The bound of a rule is out of its range."""

    def __init__(self, number):
        super().__init__(f"{number} is no bound of this rule")
        self.number = number


class EmptyBar(RuleError):
    """A listed bar has no mark."""

    def __init__(self, position):
        super().__init__(f"the bar at position {position} has no mark")
        self.position = position


class RepeatedKey(RuleError):
    """Two rules have the same key."""

    def __init__(self, key):
        super().__init__(f"the key {key} occurs earlier")
        self.key = key


class NotABar(RuleError):
    """Some marks are no bar, of at least two marks, of a rule."""

    def __init__(self, bar):
        super().__init__(f"{bar} is no bar of at least two marks")
        self.bar = tuple(bar)


class NotTight(RuleError):
    """A bar has no tight base."""

    def __init__(self, bar):
        super().__init__(f"{bar} has no tight base")
        self.bar = tuple(bar)


class Unlawful(RuleError):
    """A book breaks a rule."""

    def __init__(self, key, bar):
        super().__init__(f"{bar} breaks the rule {key}")
        self.key = key
        self.bar = tuple(bar)


class BrokenRun(RuleError):
    """The book after a deed of a run breaks a rule."""

    def __init__(self, position, key, bar):
        super().__init__(f"after the deed at position {position}, {bar} breaks the rule {key}")
        self.position = position
        self.key = key
        self.bar = tuple(bar)


class TooWide(RuleError):
    """A rule has a bar of more than two marks."""

    def __init__(self, key):
        super().__init__(f"the rule {key} has bars of more than two marks")
        self.key = key


class TreeClash(ClashError):
    """Three trees have three different leaves at a place."""

    def __init__(self, place):
        super().__init__(f"the trees clash at place {place}")
        self.place = place


class PlaceClash(ClashError):
    """Several values are found at a place."""

    def __init__(self, place, found):
        super().__init__(f"place {place} is given the values {found}")
        self.place = place
        self.found = list(found)


class RuleClash(ClashError):
    """What was merged breaks a rule."""

    def __init__(self, key, bar):
        super().__init__(f"merged, {bar} breaks the rule {key}")
        self.key = key
        self.bar = tuple(bar)


class PlanClash(ClashError):
    """The nodes of a merge of a plan are not clean."""

    def __init__(self, nodes):
        super().__init__(f"the nodes {nodes} are not clean")
        self.nodes = list(nodes)


class PartClash(ClashError):
    """A change of one part clashes with a change of another one."""

    def __init__(self, first, second):
        super().__init__(f"the change of place {first} clashes with that of place {second}")
        self.first = first
        self.second = second


class PositionClash(ClashError):
    """Two arrangements cannot be merged at a position."""

    def __init__(self, position):
        super().__init__(f"the arrangements clash at position {position}")
        self.position = position


class OpenFold(ClashError):
    """A fold has several values at a place."""

    def __init__(self, place):
        super().__init__(f"the fold is open at place {place}")
        self.place = place


class Contradiction(ClashError):
    """An answer contradicts itself or a recorded one."""

    def __init__(self, winner, loser):
        super().__init__(f"{winner} cannot be preferred to {loser}")
        self.winner = winner
        self.loser = loser


class Unanswered(ClashError):
    """No answer tells which one of two marks is preferred."""

    def __init__(self, first, second):
        super().__init__(f"no answer prefers {first} or {second} to the other one")
        self.first = first
        self.second = second


class AnswerRing(ClashError):
    """Changes strike one another in a ring."""

    def __init__(self, ring):
        super().__init__(f"the changes {ring} strike one another in a ring")
        self.ring = list(ring)


class NoTree(MissingError):
    """A forest does not have a tree."""

    def __init__(self, tree):
        super().__init__(f"there is no tree {tree}")
        self.tree = tree


class NoNode(MissingError):
    """A history does not have a node."""

    def __init__(self, node):
        super().__init__(f"there is no node {node}")
        self.node = node


class NoWrite(MissingError):
    """A node has not written a place, or is not in the past."""

    def __init__(self, node, place):
        super().__init__(f"the past has no write of node {node} at place {place}")
        self.node = node
        self.place = place


class NoFork(MissingError):
    """A desk does not have a fork."""

    def __init__(self, name):
        super().__init__(f"there is no fork {name}")
        self.name = name


class NotChanged(MissingError):
    """A place is no changed place of a fork."""

    def __init__(self, place):
        super().__init__(f"place {place} is not changed")
        self.place = place


class NotCommon(MissingError):
    """A node is no last common node."""

    def __init__(self, base):
        super().__init__(f"node {base} is no last common node")
        self.base = base


class NothingToUndo(MissingError):
    """There is no step to take back."""

    def __init__(self):
        super().__init__("there is nothing to undo")


class NothingToRedo(MissingError):
    """There is no step to do again."""

    def __init__(self):
        super().__init__("there is nothing to redo")


class EmptyDeed(DeedError):
    """A deed writes no place."""

    def __init__(self):
        super().__init__("the deed writes no place")


class OtherDeeds(DeedError):
    """Two runs do not have the same deeds."""

    def __init__(self):
        super().__init__("the runs do not have the same deeds")


class OpenChoice(DeedError):
    """A deed of a choice rests on a deed outside."""

    def __init__(self, position, place, missing):
        super().__init__(f"for place {place}, deed {position} rests on deed {missing}, which is not chosen")
        self.position = position
        self.place = place
        self.missing = missing


class ClosedChoice(DeedError):
    """A choice is closed where an open one is asked for."""

    def __init__(self):
        super().__init__("the choice is closed")


class ForkExists(DeedError):
    """A desk has a fork already."""

    def __init__(self, name):
        super().__init__(f"there is a fork {name} already")
        self.name = name


class LastFork(DeedError):
    """The only fork of a desk cannot be dropped."""

    def __init__(self, name):
        super().__init__(f"{name} is the only fork")
        self.name = name


class BadDeed(DeedError):
    """A deed of an attempt raises an error."""

    def __init__(self, position):
        super().__init__(f"the deed at position {position} cannot be done")
        self.position = position


class BadText(TextError):
    """A text is not the text of a deed."""

    def __init__(self):
        super().__init__("this is not the text of a deed")


class BadLine(TextError):
    """A line of a journal cannot be done."""

    def __init__(self, number):
        super().__init__(f"line {number} cannot be done")
        self.number = number
