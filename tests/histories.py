"""Histories of worlds drawn by chance, and terms that a stranger makes up."""

from strangerspost.changing import Made, wished
from strangerspost.errors import BadWish, PostError
from strangerspost.keyrings import EpochKeys, PathKeys
from strangerspost.members import Room
from strangerspost.shapes import context_term, told_card, welcome_term
from strangerspost.taking import Entry, come_to
from strangerspost.terms import box_term, lock_term, name_term, print_term
from strangerspost.trees import Tree, meeting, members, path, tree_term
from strangerspost.world import World


class History:
    """A world with all that was done there, drawn by chance."""

    def __init__(self, chance, names, stranger):
        self.chance = chance
        self.world = World(names, chance.randrange(4), chance.randrange(3))
        self.names = names
        self.stranger = stranger
        self.told = []
        self.made_up = []
        # Rooms that the stranger made up, as their maker would hold them.
        self.own_rooms = []

    def go(self, count):
        for _ in range(count):
            self.deed()
        return self.world

    def deed(self):
        chance = self.chance
        deeds = [self.card, self.found, self.change, self.change, self.write, self.write] + [self.hand] * 2
        deeds += [self.hand_all] * 4
        if chance.random() < 0.06:
            deeds = [self.steal] * 6 + [self.leave]
        elif self.stranger and chance.random() < 0.35:
            deeds = [
                self.fresh, self.card_as, self.change_as, self.write_as, self.welcome, self.go_on, self.other_parts,
                self.hand_term, self.hand_term,
            ]
        deed = chance.choice(deeds)
        try:
            self.told.append((deed.__name__, deed()))
        except PostError as error:
            self.told.append((deed.__name__, error.__class__.__name__))

    def member(self):
        return self.chance.choice(self.names)

    def room(self, member):
        rooms = self.world.rooms(member)
        return self.chance.choice(rooms) if rooms else "r"

    def wishes(self, member, room):
        chance, world = self.chance, self.world
        book, post = world.book, world.post()
        if room not in world.rooms(member):
            return ()
        tree = world.view(member, room)[2]
        there = [held[0] for held in tree.leaves if held]
        cards = [("add", at) for at, term in enumerate(post) if told_card(book, term)]
        missing = [wish for wish in cards if told_card(book, post[wish[1]])[1] not in there]
        leaves = [("remove", leaf) for leaf, held in enumerate(tree.leaves) if held and held[0] != member]
        rows = missing * 5 + cards + leaves
        return tuple([chance.choice(rows) for _ in range(chance.choice((0, 1, 1, 1, 2, 3))) if rows])

    def card(self):
        return self.world.card(self.member())

    def found(self):
        return self.world.found(self.member(), self.chance.choice("rs"))

    def change(self):
        member = self.member()
        room = self.room(member)
        return self.rightly(self.world.change, member, room)

    def rightly(self, call, member, room):
        wishes = self.wishes(member, room)
        while True:
            try:
                return call(member, room, wishes)
            except BadWish as error:
                wishes = wishes[:error.at] + wishes[error.at + 1:]

    def write(self):
        member = self.member()
        return self.world.write(member, self.room(member), self.chance.choice((None, None, "hello")))

    def hand(self):
        count = len(self.world.post())
        number = max(self.chance.randrange(count), self.chance.randrange(count)) if count else 0
        return self.world.hand(number, self.member())

    def hand_all(self):
        count = len(self.world.post())
        start = max(0, count - 1 - self.chance.randrange(6))
        told = []
        for number in range(start, count):
            told.append([self.world.hand(number, name) for name in self.names])
        return told

    def steal(self):
        return self.world.steal(self.member())

    def leave(self):
        member = self.member()
        return self.world.leave(member, self.room(member))

    # What the stranger makes up.

    def fresh(self):
        return self.world.fresh()

    def card_as(self):
        return self.world.card_as(self.member())

    def change_as(self):
        member = self.member()
        return self.rightly(self.world.change_as, member, self.room(member))

    def write_as(self):
        member = self.member()
        return self.world.write_as(member, self.room(member), self.chance.choice((None, "lie")))

    def hand_term(self):
        terms = self.made_up[-4:] + self.world.post()[-6:]
        if not terms:
            return None
        return self.world.hand_term(self.chance.choice(terms), self.member())

    def some_key(self):
        """A key that the stranger may know: a fresh one of its own, or one that it learned."""
        world, chance = self.world, self.chance
        known = [term for term in world.bag() if world.book.kind(term) in ("fresh", "made")]
        return chance.choice(known) if known and chance.random() < 0.3 else world.fresh()

    def welcome(self):
        """A welcome to a room of the stranger's own, for some card, marked by somebody whose marks' key it knows."""
        world, chance = self.world, self.chance
        book = world.book
        makers = [name for name in self.names if world.knows(world.held[name].marks)]
        cards = [told_card(book, term) for term in world.post() if told_card(book, term)]
        if not makers or not cards:
            return None
        maker = chance.choice(makers)
        marks, name, lock, entry = chance.choice(cards)
        if name == maker:
            return None
        height = chance.randrange(1, 3)
        leaf, other = chance.sample(range(2 ** height), 2)
        start, key = self.some_key(), self.some_key()
        level = meeting(Tree(height, (None,) * 2 ** height, ()), leaf, other)[0]
        keys = PathKeys(book, level, start, height)
        leaves = [None] * 2 ** height
        leaves[leaf], leaves[other] = (name, lock), (maker, lock_term(book, key))
        nodes = [(node, keys.locks[node[0] - level], ()) for node in [(at, leaf >> at) for at in range(level, height + 1)]]
        tree = Tree(height, tuple(leaves), tuple(nodes))
        if chance.random() < 0.1:
            tree = Tree(height, tuple(leaves), ())
        term = tree_term(book, tree)
        room = chance.choice("rst")
        context = context_term(book, room, chance.choice((0, 3, 10 ** 6)), term, name_term(book, "begin"))
        joiner = self.some_key()
        parts = (joiner, keys.way(level), leaf, other, context, term)
        content = welcome_term(book, world.held[maker].marks, parts)
        box = box_term(book, entry, content)
        self.made_up.append(box)
        own = Room(room, other, {(0, other): key})
        # The room as the maker would hold it, from where changes of its own go on; a copy of the world takes the names.
        keys, entered = EpochKeys(book, joiner, None), Entry(book, context, term, tree)
        keys.first_turns(book, members(tree))
        come_to(world.copy(), own, keys, entered, None)
        self.own_rooms.append((maker, own))
        return world.hand_term(box, name)

    def go_on(self):
        """A change's letter, or a letter, in a room of the stranger's own."""
        if not self.own_rooms:
            return None
        world, chance = self.world, self.chance
        maker, own = chance.choice(self.own_rooms)
        tree = own.own().told_tree
        cards = [("add", term) for term in world.post() if told_card(world.book, term)]
        wishes = tuple([chance.choice(cards)] if cards and chance.random() < 0.5 else [])
        plan = wished(world.book, world.marks_keys(), tree, own.leaf, wishes)
        made = Made(world.book, world.held[maker].marks, own, plan, self.some_key())
        told = []
        for term in [made.letter] + made.welcomes:
            self.made_up.append(term)
            told.append([world.hand_term(term, name) for name in self.names])
        return told

    def other_parts(self):
        """A term of the post with one part, or one within it, put in the place of another one."""
        world, chance = self.world, self.chance
        if not world.post():
            return None
        term = self.otherwise(chance.choice(world.post()[-8:]), chance.randrange(1, 6))
        self.made_up.append(term)
        return [world.hand_term(term, name) for name in self.names]

    def otherwise(self, term, deep):
        world, chance = self.world, self.chance
        book = world.book
        kind, parts = book.kind(term), book.parts(term)
        if kind in ("name", "number", "fresh") or not parts or deep == 0:
            known = [other for other in world.post() + world.bag()] + [self.some_key(), world.put("number", (1,))]
            return chance.choice(known)
        at = chance.randrange(len(parts))
        return world.put(kind, parts[:at] + (self.otherwise(parts[at], deep - 1),) + parts[at + 1:])


def sound(world):
    """Whether what each member holds fits together."""
    book = world.book
    for member in world.held.values():
        for room in member.joined.values():
            epoch = room.own()
            tree = epoch.told_tree
            nodes = {node: lock for node, lock, aside in tree.nodes}
            if tree.leaves[room.leaf] != (member.name, lock_term(book, room.held[(0, room.leaf)])):
                return False
            for node, key in room.held.items():
                if node != (0, room.leaf) and (node not in path(tree, room.leaf) or nodes.get(node) != lock_term(book, key)):
                    return False
            if epoch.label != print_term(book, epoch.context) or len(room.epochs) != min(len(room.been), world.keep + 1):
                return False
            labels = [label for label, letter in room.been]
            if labels[-len(room.epochs):] != [one.label for one in room.epochs] or len(set(labels)) < len(labels):
                return False
            if [letter is None for label, letter in room.been] != [False] * (len(labels) - 1) + [True]:
                return False
            if room.pending is not None and room.pending[0] not in world.post():
                return False
            if not all([sound_turns(epoch) for epoch in room.epochs]):
                return False
    return True


def sound_turns(epoch):
    """Whether an epoch has turns of just its members, and keys of lesser places alone."""
    if sorted(epoch.turns) != list(members(epoch.told_tree)) or sorted(epoch.kept) != sorted(epoch.turns):
        return False
    return all([place < epoch.turns[leaf][0] for leaf in epoch.kept for place in epoch.kept[leaf]])
