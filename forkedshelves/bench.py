"""What a desk has at one moment."""

from forkedshelves.errors import NoFork


class Bench:
    """A history, the tips of the forks, the kept answers and the texts of the deeds. Nothing of it changes later."""

    def __init__(self, graph, tips, preferences, lines):
        self.graph = graph
        self.tips = dict(tips)
        self.preferences = preferences
        self.lines = list(lines)

    def tip(self, name):
        """Return the tip of a fork."""
        if name not in self.tips:
            raise NoFork(name)
        return self.tips[name]

    def with_tips(self, tips):
        """Return the bench with other forks or tips."""
        return Bench(self.graph, tips, self.preferences, self.lines)

    def with_node(self, graph, name, node):
        """Return the bench with a longer history, of which a node is the tip of a fork."""
        return Bench(graph, {**self.tips, name: node}, self.preferences, self.lines)

    def with_preferences(self, preferences):
        """Return the bench with other kept answers."""
        return Bench(self.graph, self.tips, preferences, self.lines)

    def with_line(self, line):
        """Return the bench with the text of one more deed."""
        return Bench(self.graph, self.tips, self.preferences, [*self.lines, line])
