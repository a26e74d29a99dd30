"""The ledger of a world: what all that members hold is called, in the order in which they come to it."""


class Ledger:
    """The names of terms, and what is numbered: cards, changes, epochs, messages, thefts."""

    def __init__(self):
        # A term has the first name that fits, a name the first term.
        self.terms = {}
        self.names = {}
        self.card_count = 0
        self.other_count = 0
        # Numbers of changes by their letters, numbers of epochs by their epoch keys.
        self.changes = {}
        self.epochs = {}
        # By the number of an epoch: its chain and seal; all its turns and keys, and its letters key.
        self.sealed = []
        self.turnings = []
        # The words of each message, None for those that say a text.
        self.messages = []
        # The terms of each store that was stolen.
        self.thefts = []

    def copy(self):
        """The same, going on apart."""
        other = Ledger()
        other.terms = {name: self.terms[name] for name in self.terms}
        other.names = dict(self.names)
        other.card_count, other.other_count = self.card_count, self.other_count
        other.changes, other.epochs = dict(self.changes), dict(self.epochs)
        other.sealed = list(self.sealed)
        other.turnings = [dict(turnings) for turnings in self.turnings]
        other.messages = list(self.messages)
        other.thefts = list(self.thefts)
        return other

    def give(self, name, term):
        """Gives a name to a term, unless either has one already."""
        if name not in self.terms and term not in self.names:
            self.terms[name] = term
            self.names[term] = name

    def card(self, key, entry):
        """Tells of a card that is handed in."""
        self.give(("leaf", self.card_count), key)
        self.give(("entry", self.card_count), entry)
        self.card_count += 1

    def change(self, letter, keys):
        """Tells of a change that is made or taken, and of its keys that one came to."""
        number = self.changes.setdefault(letter, len(self.changes))
        for level, way, node in keys.levels():
            self.give(("path", number, level), way)
            self.give(("node", number, level), node)
        self.give(("root", number), keys.root)

    def epoch(self, keys, turns):
        """Tells of an epoch that one comes to, and of the first turns of its leaves: its number."""
        number = self.epochs.setdefault(keys.key, len(self.epochs))
        if number == len(self.sealed):
            self.sealed.append((keys.chain, keys.seal))
            self.turnings.append({keys.letters: True})
        if keys.joiner is not None:
            self.give(("join", number), keys.joiner)
        self.give(("epoch", number), keys.key)
        self.give(("chain", number), keys.chain)
        self.give(("letters", number), keys.letters)
        self.give(("seal", number), keys.seal)
        for leaf in turns:
            self.turn("turn", number, leaf, 0, turns[leaf])
        return number

    def turn(self, word, epoch, leaf, place, term):
        """Tells of a turn or a key of a letter."""
        self.give((word, epoch, leaf, place), term)
        self.turnings[epoch][term] = True

    def message(self, words):
        """Tells of a letter of words that is handed in; the words are None where it says a text."""
        if words is not None:
            self.give(("words", len(self.messages)), words)
        self.messages.append(words)

    def theft(self, store, openly):
        """Tells of a store that is stolen; some of its terms are known openly."""
        for term in store:
            if term not in openly and term not in self.names:
                self.terms[("other", self.other_count)] = term
                self.names[term] = ("other", self.other_count)
                self.other_count += 1
        self.thefts.append(store)
