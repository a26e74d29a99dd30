"""Worlds that several tests use, and the terms of rooms put together plainly."""

import unittest

from strangerspost.errors import NoKind, PostError
from strangerspost.trees import members
from strangerspost.world import World
from tests.things import deep

# Things of many kinds that are no name of a member, a room or anything else.
NO_WORDS = (
    "", "A", "a b", "zz", "abcdefghijklm", 0, -1, True, None, b"a", ("a",), ["a"], {}, {"a": 0}, range(1), World, NoKind(),
    deep(40), (deep(38),),
)


def state(world):
    """All that a world tells."""
    book = world.book_now()
    held = {}
    for name in world.names:
        held[name] = (world.store(name), [(room, world.view(name, room)) for room in world.rooms(name)])
    return (
        [(book.kind(term), book.parts(term)) for term in range(book.size())], world.post(), world.bag(), held,
        dict(world.ledger.terms), list(world.ledger.thefts), list(world.ledger.messages), world.ledger.card_count,
        [[(room.pending, room.been) for name, room in sorted(member.joined.items())] for member in world.held.values()],
        [member.cards for member in world.held.values()],
    )


class WorldCase(unittest.TestCase):

    def refuses(self, error, world, call, *given):
        """A call raises just this error, and nothing has changed."""
        before = state(world)
        with self.assertRaises(PostError) as caught:
            call(*given)
        self.assertIs(caught.exception.__class__, error, given)
        self.assertEqual(state(world), before)
        return caught.exception


def handed(world, numbers, *names):
    """Hands what lies in the post to members, one number behind another: what comes of it."""
    return [world.hand(number, name) for number in numbers for name in names or world.names]


def joined(world, maker, room, *names):
    """A change that adds members by cards of their own is made and handed to all: the numbers."""
    cards = tuple([("add", world.card(name)) for name in names])
    numbers = world.change(maker, room, cards)
    handed(world, numbers)
    return numbers


def room_of(names, window=2, keep=1):
    """A world of members, the first of whom has founded the room "r" and added all others, one by one."""
    world = World(tuple(names), window, keep)
    world.found(names[0], "r")
    for name in names[1:]:
        joined(world, names[0], "r", name)
    return world


class Hand:
    """Puts terms of a world together, as the points tell them."""

    def __init__(self, world):
        self.put = world.put

    def name(self, text):
        return self.put("name", (text,))

    def number(self, number):
        return self.put("number", (number,))

    def row(self, *items):
        return self.put("row", tuple([self.name(item) if isinstance(item, str) else item for item in items]))

    def made(self, word, key):
        return self.put("made", (self.name(word), key))

    def lock(self, key):
        return self.put("lock", (key,))

    def print(self, term):
        return self.put("print", (term,))

    def mark(self, key, term):
        return self.put("mark", (key, term))

    def box(self, lock, term):
        return self.put("box", (lock, term))

    def chest(self, key, term):
        return self.put("chest", (key, term))

    def card(self, marks, name, key, entry):
        return self.mark(marks, self.row("card", name, self.lock(key), self.lock(entry)))

    def tree(self, height, leaves, nodes):
        """The term of a tree: leaves and nodes as a dict from node to (lock, aside)."""
        rows = [self.number(0) if leaf is None else self.row(leaf[0], leaf[1]) for leaf in leaves]
        above = []
        for node in sorted(nodes):
            lock, aside = nodes[node]
            numbers = self.row(*[self.number(leaf) for leaf in sorted(aside)])
            above.append(self.row(self.number(node[0]), self.number(node[1]), lock, numbers))
        return self.row("tree", self.number(height), self.row(*rows), self.row(*above))

    def context(self, room, number, tree, trail):
        return self.row("context", room, self.number(number), self.print(tree), trail)

    def turn(self, leaf, place, epoch_key):
        """turn(g) of a leaf, of an epoch key."""
        term = self.put("made", (self.row("turn", self.number(leaf)), self.made("letters", epoch_key)))
        for _ in range(place):
            term = self.made("next", term)
        return term

    def letter(self, label, leaf, place, key, marks, words):
        numbers = (self.number(leaf), self.number(place))
        inside = self.mark(marks, self.row("words", label, *numbers, words))
        return self.row("letter", label, *numbers, self.chest(key, inside))

    def up(self, start, count):
        """p(0), p(1), .. of a change."""
        ways = [start]
        for _ in range(count):
            ways.append(self.made("up", ways[-1]))
        return ways


def plain_resolution(leaves, nodes, level, at):
    """The nodes that together have all members beneath a node, as 3.2 tells."""
    if level == 0:
        return [(0, at)] if leaves[at] is not None else []
    if (level, at) in nodes:
        return [(level, at)] + [(0, leaf) for leaf in sorted(nodes[(level, at)][1])]
    return plain_resolution(leaves, nodes, level - 1, 2 * at) + plain_resolution(leaves, nodes, level - 1, 2 * at + 1)


def plain_change(world, member, room, wishes, start, chain):
    """All that a change is made of, as 4.3 and 4.4 tell, from the member's view; wishes of terms of cards."""
    hand, book = Hand(world), world.book_now()
    number, context, tree, seal, own = world.view(member, room)
    marks = world.held[member].marks
    trail = book.parts(context)[4]
    height, leaves = tree.height, list(tree.leaves)
    nodes = {node: (lock, list(aside)) for node, lock, aside in tree.nodes}

    def blank(leaf):
        for node in [node for node in nodes if leaf // 2 ** node[0] == node[1]]:
            del nodes[node]

    for word, leaf in wishes:
        if word == "remove":
            leaves[leaf] = None
            blank(leaf)
    added = []
    for word, card in wishes:
        if word == "add":
            _, name, lock, entry = book.parts(book.parts(card)[1])
            if None not in leaves:
                leaves, height = leaves + [None] * len(leaves), height + 1
            leaf = leaves.index(None)
            leaves[leaf] = (book.parts(name)[0], lock)
            added.append((leaf, entry))
            for node in nodes:
                if leaf // 2 ** node[0] == node[1]:
                    nodes[node][1].append(leaf)
    ways = hand.up(start, height)
    keys = [hand.made("node", way) for way in ways]
    levels = []
    for level in range(1, height + 1):
        boxes = []
        for node in plain_resolution(leaves, nodes, level - 1, (own // 2 ** (level - 1)) ^ 1):
            if node[0] > 0:
                boxes.append(hand.box(nodes[node][0], ways[level]))
            elif node[1] not in [leaf for leaf, entry in added]:
                boxes.append(hand.box(leaves[node[1]][1], ways[level]))
        levels.append(hand.row(hand.lock(keys[level]), hand.row(*boxes)))
    told = [hand.row("add", of) if word == "add" else hand.row("remove", hand.number(of)) for word, of in wishes]
    body = hand.row(
        "change", hand.print(context), hand.number(own), hand.row(*told), hand.lock(keys[0]), hand.row(*levels))
    marked = hand.mark(marks, body)
    leaves[own] = (member, hand.lock(keys[0]))
    for level in range(1, height + 1):
        nodes[(level, own // 2 ** level)] = (hand.lock(keys[level]), [])
    tree_two = hand.tree(height, leaves, nodes)
    context_two = hand.context(room, number + 1, tree_two, hand.print(hand.row(trail, marked)))
    root = hand.made("root", ways[-1])
    joiner = hand.put("made", (hand.print(context_two), hand.row(chain, root)))
    letter = hand.row(marked, hand.print(hand.row(seal, marked)), hand.print(context_two))
    welcomes = []
    for leaf, entry in added:
        level = 1
        while leaf // 2 ** level != own // 2 ** level:
            level += 1
        numbers = (hand.number(leaf), hand.number(own))
        row = hand.row("welcome", joiner, ways[level], *numbers, context_two, tree_two)
        welcomes.append(hand.box(entry, hand.mark(marks, row)))
    return {
        "letter": letter, "welcomes": welcomes, "context": context_two, "tree": tree_two, "ways": ways, "keys": keys,
        "root": root, "joiner": joiner, "epoch": hand.made("epoch", joiner), "members": members(tree),
    }
