"""Changes: what is wished, what is boxed to whom, and what is handed in."""

from strangerspost.books import is_below
from strangerspost.errors import BadWish
from strangerspost.keyrings import EpochKeys, PathKeys
from strangerspost.shapes import (
    body_term, context_term, joiner_term, next_trail, seal_print, told_card, told_context, welcome_term,
)
from strangerspost.terms import box_term, mark_term, print_term, row_term
from strangerspost.trees import (
    beside, is_pair, kept_nodes, meeting, members, renewed, resolution, tree_term, with_member, without_member,
)


class Wished:
    """The tree T1 that right wishes lead to, and whom they add and remove."""

    def __init__(self, wishes, tree, added, removed):
        # The wishes with the terms of cards.
        self.wishes = wishes
        self.tree = tree
        # The entry's lock of the card of each leaf that is added, in the order of the wishes.
        self.added = added
        self.removed = removed

    def targets(self, leaf):
        """For each level above a leaf the tuple of the locks that its p is boxed with."""
        nodes = kept_nodes(self.tree)
        found = []
        for other in beside(self.tree, leaf):
            locks = []
            for level, at in resolution(self.tree, other):
                if level > 0:
                    locks.append(nodes[(level, at)][0])
                elif at not in self.added:
                    locks.append(self.tree.leaves[at][1])
            found.append(tuple(locks))
        return found


def posted_wishes(post, wishes):
    """The wishes with the terms of their cards, and None for what is no such pair."""
    if not isinstance(wishes, tuple):
        raise BadWish(-1)
    found = []
    for wish in wishes:
        told = None
        if is_pair(wish) and isinstance(wish[0], str):
            word, of = wish
            if word == "remove":
                told = wish
            elif word == "add" and is_below(len(post), of):
                told = ("add", post[of])
        found.append(told)
    return tuple(found)


def wished(book, marks, tree, own, wishes):
    """What wishes of the member at a leaf lead to; marks are the marks' keys of all members by their names."""
    removed, right = removals(tree, own, wishes)
    for leaf in removed:
        tree = without_member(tree, leaf)
    names = {tree.leaves[leaf][0]: True for leaf in members(tree)}
    cards = []
    for at, wish in enumerate(wishes):
        if at in right:
            continue
        card = told_card(book, wish[1]) if wish is not None and wish[0] == "add" else None
        if card is None or marks.get(card[1]) != card[0] or card[1] in names:
            raise BadWish(at)
        names[card[1]] = True
        cards.append(card)
    added = {}
    for key, name, lock, entry in cards:
        tree, leaf = with_member(tree, name, lock)
        added[leaf] = entry
    return Wished(wishes, tree, added, removed)


def removals(tree, own, wishes):
    """The leaves that right removals tell, and the places of these among the wishes: dicts of True."""
    removed, right = {}, {}
    having = members(tree)
    for at, wish in enumerate(wishes):
        if wish is None or wish[0] != "remove" or not is_below(len(tree.leaves), wish[1]):
            continue
        leaf = wish[1]
        if leaf in having and leaf not in removed and leaf != own:
            removed[leaf] = True
            right[at] = True
    return removed, right


class Made:
    """What a member, or the stranger in its place, makes of a change."""

    def __init__(self, book, marks, room, plan, start):
        epoch = room.own()
        trail = told_context(book, epoch.context)[3]
        self.path = PathKeys(book, 0, start, plan.tree.height)
        self.leaf = room.leaf
        boxes = []
        for at, locks in enumerate(plan.targets(room.leaf)):
            boxes.append([box_term(book, lock, self.path.way(at + 1)) for lock in locks])
        body = body_term(book, epoch.label, room.leaf, plan.wishes, self.path.locks, boxes)
        marked = mark_term(book, marks, body)
        self.coming = Coming(book, epoch, plan.tree, room.leaf, self.path.locks, next_trail(book, trail, marked))
        self.keyring = self.coming.epoch_keys(book, room.chain, self.path.root)
        self.letter = row_term(book, (marked, seal_print(book, room.seal, marked), self.coming.label))
        self.welcomes = [self.welcome(book, marks, leaf, plan.added[leaf]) for leaf in plan.added]

    def welcome(self, book, marks, leaf, entry):
        """The welcome for the member at a leaf, boxed with its entry's lock."""
        way = self.path.way(meeting(self.coming.told_tree, leaf, self.leaf)[0])
        parts = (self.keyring.joiner, way, leaf, self.leaf, self.coming.context, self.coming.tree)
        return box_term(book, entry, welcome_term(book, marks, parts))


class Coming:
    """The epoch that a change leads to: its tree T2, its context C2 and its label."""

    def __init__(self, book, epoch, tree, leaf, locks, trail):
        room, number = told_context(book, epoch.context)[:2]
        self.told_tree = renewed(tree, leaf, locks)
        self.tree = tree_term(book, self.told_tree)
        self.context = context_term(book, room, number + 1, self.tree, trail)
        self.label = print_term(book, self.context)

    def epoch_keys(self, book, chain, root):
        """The keys of the epoch, of the chain of the one ahead and the change's root."""
        return EpochKeys(book, joiner_term(book, self.label, chain, root), None)
