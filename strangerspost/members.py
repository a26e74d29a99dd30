"""What members hold."""


class Epoch:
    """What a member keeps of an epoch."""

    def __init__(self, number, label, context, tree, told_tree):
        # The number is the ledger's; no member knows it.
        self.number = number
        self.label = label
        self.context = context
        self.tree = tree
        self.told_tree = told_tree
        # For each leaf with a member the place of its turn and the turn, and the kept keys by their places.
        self.turns = {}
        self.kept = {}

    def copy(self):
        """The same, going on apart."""
        other = Epoch(self.number, self.label, self.context, self.tree, self.told_tree)
        other.turns = dict(self.turns)
        other.kept = {leaf: dict(self.kept[leaf]) for leaf in self.kept}
        return other

    def row_terms(self):
        """The list of all turns and kept keys."""
        turns = [turn for place, turn in self.turns.values()]
        return turns + [key for keys in self.kept.values() for key in keys.values()]

    def held_terms(self):
        """The list of all terms that are kept of the epoch."""
        return [self.context, self.tree] + self.row_terms()


class Room:
    """What a member holds of a room."""

    def __init__(self, name, leaf, held):
        self.name = name
        self.leaf = leaf
        # The keys of its leaf and of nodes above it, by nodes.
        self.held = held
        self.chain = None
        self.seal = None
        # Pairs of the label of an epoch and the letter that was taken there, None for the last one.
        self.been = []
        # The epochs that are kept, the own one last.
        self.epochs = []
        # The letter and p(0) of the pending change.
        self.pending = None

    def copy(self):
        """The same, going on apart."""
        other = Room(self.name, self.leaf, {node: self.held[node] for node in self.held})
        other.chain, other.seal = self.chain, self.seal
        other.been = list(self.been)
        other.epochs = [epoch.copy() for epoch in self.epochs]
        other.pending = self.pending
        return other

    def own(self):
        """The epoch in which the member is."""
        return self.epochs[-1]

    def come(self, epoch, chain, seal, letter, keep):
        """Comes to an epoch by a letter, and lets go of what was kept of the epochs further back."""
        if self.been:
            self.been[-1] = (self.been[-1][0], letter)
        # Only by an image can it have been told to have been there: what it remembers of that is told anew.
        self.been = [pair for pair in self.been if pair[0] != epoch.label] + [(epoch.label, None)]
        self.epochs = [elder for elder in self.epochs if elder.label != epoch.label] + [epoch]
        self.epochs = self.epochs[-1 - keep:]
        self.chain, self.seal = chain, seal
        self.pending = None

    def held_terms(self):
        """The list of all terms that are held of the room."""
        found = [self.chain, self.seal] + list(self.held.values())
        for epoch in self.epochs:
            found.extend(epoch.held_terms())
        return found if self.pending is None else found + [self.pending[1]]


class Member:
    """A member: its marks' key, its cards that are not used up, and its rooms."""

    def __init__(self, name, marks):
        self.name = name
        self.marks = marks
        # Triples of the number in the post, the leaf's key and the entry's key.
        self.cards = []
        self.joined = {}

    def copy(self):
        """The same, going on apart."""
        other = Member(self.name, self.marks)
        other.cards = list(self.cards)
        other.joined = {name: self.joined[name].copy() for name in self.joined}
        return other

    def store(self):
        """The ascending tuple of all terms that are held."""
        found = {self.marks: True}
        for number, key, entry in self.cards:
            found[key] = True
            found[entry] = True
        for room in self.joined.values():
            for term in room.held_terms():
                found[term] = True
        return tuple(sorted(found))
