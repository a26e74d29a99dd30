"""Keys that are made of others."""

from strangerspost.shapes import first_turn
from strangerspost.terms import lock_term, made_term


class PathKeys:
    """The keys of a change from a level on, made of p of this level."""

    def __init__(self, book, level, way, height):
        self.level = level
        self.ways = [way]
        for _ in range(level, height):
            self.ways.append(made_term(book, "up", self.ways[-1]))
        self.nodes = [made_term(book, "node", one) for one in self.ways]
        self.locks = tuple([lock_term(book, key) for key in self.nodes])
        self.root = made_term(book, "root", self.ways[-1])

    def levels(self):
        """The list of the levels with p and the node's key of each."""
        return [(self.level + at, way, self.nodes[at]) for at, way in enumerate(self.ways)]

    def way(self, level):
        """The p of a level."""
        return self.ways[level - self.level]

    def node(self, level):
        """The node's key of a level."""
        return self.nodes[level - self.level]


class EpochKeys:
    """The keys of an epoch, made of its joiner; of its epoch key where it has none."""

    def __init__(self, book, joiner, key):
        self.joiner = joiner
        self.key = key if joiner is None else made_term(book, "epoch", joiner)
        self.chain = made_term(book, "chain", self.key)
        self.letters = made_term(book, "letters", self.key)
        self.seal = made_term(book, "seal", self.key)

    def first_turns(self, book, leaves):
        """The first turns of leaves, by the leaves."""
        return {leaf: first_turn(book, leaf, self.letters) for leaf in leaves}
