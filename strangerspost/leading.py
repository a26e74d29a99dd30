"""Which lots of terms lead to others, of those that are not known openly."""

from strangerspost.books import LEAVES
from strangerspost.knowing import inner, made_of, opening


class Leading:
    """The least lots of secret terms that lead to each term without passing any other secret one.

    A lot is an integer with a bit for each of its terms.
    """

    def __init__(self, book, openly, secrets):
        self.book = book
        self.secrets = secrets
        self.bits = {term: 1 << at for at, term in enumerate(secrets)}
        near = book.within(list(openly.bag()) + list(secrets))
        # All that is opened openly, or can be made of it, needs no lot.
        known = made_of(book, {term: True for term in openly.opened()}, near)
        # Pairs of what is needed together, and what it leads to; and for each term those that need it.
        self.ways = []
        self.uses = {}
        for term in near:
            self.add_ways(known, term)
        self.lots = {term: [self.bits[term]] for term in secrets}
        self.leads = {term: [] for term in secrets}
        self.follow()

    def lots_to(self, term):
        """The least lots that lead to a secret term: lists of terms, in the order of the secret ones."""
        return [self.terms_of(lot) for lot in self.leads[term]]

    def terms_of(self, lot):
        """The terms of a lot."""
        found = []
        while lot > 0:
            lowest = lot & -lot
            found.append(self.secrets[lowest.bit_length() - 1])
            lot = lot - lowest
        return found

    def add_ways(self, known, term):
        """Adds the ways by which a term is made, and those by which others are read from it."""
        if self.book.kind(term) not in LEAVES:
            self.add_way(known, inner(self.book, term), term)
        key, contents = opening(self.book, term)
        for content in contents:
            self.add_way(known, (term,) if key is None else (term, key), content)

    def add_way(self, known, origin, term):
        """Adds a way to a term that is not known openly."""
        if term in known:
            return
        lacking = {part: True for part in origin if part not in known}
        for part in lacking:
            self.uses.setdefault(part, []).append(len(self.ways))
        self.ways.append((tuple(lacking), term))

    def follow(self):
        """Goes on along all ways until no new lot is found."""
        waiting = self.secrets
        while waiting:
            behind = {}
            for part in waiting:
                for at in self.uses.get(part, []):
                    if self.gone_along(at):
                        behind[self.ways[at][1]] = True
            # A secret term is gone on from by itself alone: what leads to it tells nothing of what it leads to.
            waiting = [term for term in behind if term not in self.bits]

    def gone_along(self, at):
        """Goes along a way: whether it leads to a term by a new lot."""
        origin, term = self.ways[at]
        lots = [0]
        for part in origin:
            lots = least_of([lot | other for lot in lots for other in self.lots.get(part, [])])
        own = self.bits.get(term, 0)
        told = self.leads if own else self.lots
        before = told.get(term, [])
        # A secret term is none of a lot that leads to it.
        told[term] = least_of(before + [lot for lot in lots if lot & own == 0])
        return told[term] != before


def least_of(lots):
    """Those lots of which no other one is a part, each once, the elder ones first."""
    found = []
    for lot in lots:
        if not any([lot & other == other for other in found]):
            found = [other for other in found if lot & other != lot]
            found.append(lot)
    return found
