"""THE FACTS OF WHAT IS GONE, OF HEALING, OF REMOVAL, beside histories drawn by chance."""

import random
import unittest

from strangerspost.errors import PostError
from strangerspost.shapes import told_change, told_context, told_welcome
from strangerspost.worldrules import names, reach, term_of
from tests.histories import History


class Ways:
    """The epochs of a world, and the changes that lead from one to another, as they lie in the post."""

    def __init__(self, world):
        self.world = world
        book = self.book = world.book
        # Epochs by the labels that lead there; each of these has one in histories without made-up terms.
        self.epochs = {}
        for name in names(world):
            if name[0] == "join":
                self.epochs[book.parts(term_of(world, name))[0]] = name[1]
        self.changes = [told_change(book, term) for term in world.post() if told_change(book, term)]

    def epoch(self, label):
        if label in self.epochs:
            return self.epochs[label]
        # A founding's epoch has no joiner; its chain stands in the joiners of those behind it alone.
        return ("first", label)

    def behind(self, label, leaf, pending):
        """The labels that one comes to from an epoch at a leaf, or who knows all that it holds there."""
        found, waiting = [], [label]
        while waiting:
            now = waiting.pop()
            for change in self.changes:
                removed = ("remove", leaf) in change.wishes
                right = change.leaf != leaf or change.letter == pending
                if change.label == now and right and not removed:
                    found.append(change.behind)
                    waiting.append(change.behind)
        return found

    def welcomes(self, entry):
        """The labels and the leaves of all welcomes for a card."""
        found = []
        for term in self.world.post():
            book = self.book
            if book.kind(term) == "box" and book.parts(book.parts(term)[0]) == (entry,):
                parts = told_welcome(book, book.parts(term)[1])[1]
                found.append((book.number_of("print", (parts[4],)), parts[2]))
        return found


class FactsTest(unittest.TestCase):

    def test_what_a_theft_tells_alone(self):
        told = {"kept": 0, "behind": 0, "welcomed": 0, "gone": 0}
        for seed in range(150):
            chance = random.Random(seed)
            history = History(chance, ("a", "b", "c", "d")[:2 + seed % 3], False)
            history.steal = history.card
            world = history.go(chance.randrange(10, 70))
            name = history.member()
            member = world.held[name].copy()
            world.steal(name)
            history.go(chance.randrange(50))
            self.tells_just(world, member, told)
        for word in told:
            self.assertGreater(told[word], 20, word)

    def tells_just(self, world, member, told):
        ways = Ways(world)
        labels = []
        for room in member.joined.values():
            kept = [epoch.label for epoch in room.epochs]
            later = ways.behind(room.own().label, room.leaf, room.pending[0] if room.pending else None)
            labels.extend(kept + later)
            told["kept"] += len(kept)
            told["behind"] += len(later)
        for number, key, entry in member.cards:
            for label, leaf in ways.welcomes(entry):
                labels.extend([label] + ways.behind(label, leaf, None))
                told["welcomed"] += 1
        expected = {ways.epoch(label) for label in labels}
        told["gone"] += len(set(ways.epochs.values()) - expected)
        self.assertEqual({self.epoch(world, ways, number) for number in reach(world, 0)}, expected)

    def epoch(self, world, ways, number):
        """An epoch as Ways tells it."""
        if number in ways.epochs.values():
            return number
        labels = []
        for name in world.names:
            for room in world.held[name].joined.values():
                labels.extend([epoch.label for epoch in room.epochs if epoch.number == number])
        for term in world.post():
            label = self.founded(world, term, number)
            labels.extend([label] if label is not None else [])
        return ("first", labels[0])

    def founded(self, world, term, number):
        """The label of what was founded, if its first turn is that of an epoch."""
        book = world.book
        parts = book.parts(term)
        if book.kind(term) != "row" or book.parts(parts[0]) != ("found",):
            return None
        # Each founding's epoch has its own tree, whose one lock is that of the first leaf's key.
        lock = book.parts(book.parts(book.parts(book.parts(parts[2])[2])[0])[1])[0]
        if ("first", number) in names(world) and lock == term_of(world, ("first", number)):
            return book.number_of("print", (parts[1],))
        return None

    def test_who_is_removed_is_told_nothing_behind(self):
        count = 0
        for seed in range(80):
            chance = random.Random(seed)
            history = History(chance, ("a", "b", "c"), False)
            history.steal = history.card
            world = history.go(40)
            for name in history.names:
                for room in list(world.rooms(name)):
                    others = [other for other in history.names if other != name and room in world.rooms(other)]
                    count += self.removes(world.copy(), name, room, others)
        self.assertGreater(count, 20)

    def removes(self, world, name, room, others):
        """One who is in the same epoch removes a member; nothing that the member holds tells of what is behind."""
        context = world.view(name, room)[1]
        leaf = world.view(name, room)[4]
        makers = [other for other in others if world.view(other, room)[1] == context]
        if not makers:
            return 0
        world.steal(name)
        try:
            (number,) = world.change(makers[0], room, (("remove", leaf),))
        except PostError:
            return 0
        change = told_change(world.book, world.post()[number])
        world.hand(number, makers[0])
        world.hand(number, name)
        number = Ways(world).epoch(change.behind)
        world.steal(name)
        self.assertNotIn(number, reach(world, 0))
        self.assertNotIn(number, reach(world, 1))
        self.assertEqual(told_context(world.book, world.view(makers[0], room)[1])[0], room)
        return 1


if __name__ == "__main__":
    unittest.main()
