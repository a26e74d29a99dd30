"""What a member does with what is handed to it."""

from strangerspost.books import is_below
from strangerspost.changing import Coming, wished
from strangerspost.errors import BadWish, TreeFull
from strangerspost.keyrings import EpochKeys, PathKeys
from strangerspost.members import Epoch, Room
from strangerspost.shapes import next_trail, told_change, told_context, told_letter, told_welcome, told_words
from strangerspost.terms import lock_term, locked_by, made_term, print_term
from strangerspost.trees import kept_nodes, meeting, members, path, tree_of
from strangerspost.words import is_word

MOST_NUMBER = 10 ** 6


def refused(why):
    """What comes of a term that a member does not take."""
    return "refused", why


def taken(world, member, term):
    """What comes of a term that is handed to a member."""
    book = world.book
    change = told_change(book, term)
    if change is not None:
        return taken_change(world, member, change)
    letter = told_letter(book, term)
    if letter is not None:
        return taken_letter(world, member, letter)
    card = entry_card(book, member, term)
    if card is not None:
        return taken_welcome(world, member, card, book.parts(term)[1])
    return refused("unlike")


def come_to(world, room, keys, coming, letter):
    """The member of a room comes to an epoch: its keys are made of its epoch key, and most of them let go of."""
    turns = keys.first_turns(world.book, members(coming.told_tree))
    number = world.ledger.epoch(keys, turns)
    epoch = Epoch(number, coming.label, coming.context, coming.tree, coming.told_tree)
    epoch.turns = {leaf: (0, turns[leaf]) for leaf in turns}
    epoch.kept = {leaf: {} for leaf in turns}
    room.come(epoch, keys.chain, keys.seal, letter, world.keep)


def ordered_rooms(member):
    """The list of the rooms of a member, by their names."""
    return [member.joined[name] for name in sorted(member.joined)]


def taken_change(world, member, change):
    """What comes of a change's letter."""
    rooms = ordered_rooms(member)
    now = [room for room in rooms if room.own().label == change.label]
    if now:
        return judged_change(world, member, now[0], change)
    for room in rooms:
        for label, letter in room.been:
            if label == change.label:
                return refused("old" if letter == change.letter else "fork")
    return refused("unlike")


def judged_change(world, member, room, change):
    """What comes of a change's letter for the epoch in which a member is."""
    book, epoch = world.book, room.own()
    leaves = epoch.told_tree.leaves
    maker = leaves[change.leaf] if is_below(len(leaves), change.leaf) else None
    marks = world.marks_keys()
    if maker is None or marks.get(maker[0]) != change.marks:
        return refused("mark")
    if not sealed_by(book, change, room.seal):
        return refused("seal")
    try:
        plan = wished(book, marks, epoch.told_tree, change.leaf, change.wishes)
    except (BadWish, TreeFull):
        return refused("wish")
    boxed = [tuple([lock for lock, content in boxes]) for boxes in change.boxes]
    if boxed != plan.targets(change.leaf):
        return refused("path")
    if room.leaf in plan.removed:
        del member.joined[room.name]
        return "out", room.name
    keys = path_keys(book, room, change)
    if keys is None:
        return refused("box")
    trail = next_trail(book, told_context(book, epoch.context)[3], change.marked)
    coming = Coming(book, epoch, plan.tree, change.leaf, change.locks, trail)
    if coming.label != change.behind:
        return refused("label")
    take_change(world, room, change, keys, coming)
    return "changed", room.name, told_context(book, coming.context)[1]


def sealed_by(book, change, seal):
    """Whether a change's letter has the print of the seal and what is marked."""
    row = book.parts(change.sealed)[0]
    return book.kind(row) == "row" and book.parts(row) == (seal, change.marked)


def path_keys(book, room, change):
    """The keys that a box of a change, or the pending change, gives the member of a room, or None."""
    height = len(change.boxes)
    if room.pending is not None and room.pending[0] == change.letter:
        keys = PathKeys(book, 0, room.pending[1], height)
        return keys if keys.locks == change.locks else None
    # The keys of the own leaf are made of p(0), which no box has.
    if room.leaf == change.leaf:
        return None
    held = {key: True for key in room.held.values()}
    for at, boxes in enumerate(change.boxes):
        for lock, content in boxes:
            key = locked_by(book, lock)
            if key is not None and key in held:
                keys = PathKeys(book, at + 1, content, height)
                if keys.locks == change.locks[at + 1:]:
                    return keys
    return None


def take_change(world, room, change, keys, coming):
    """The member of a room comes to the epoch of a change, with the keys that it got."""
    book, tree = world.book, coming.told_tree
    epoch_keys = coming.epoch_keys(book, room.chain, keys.root)
    world.ledger.change(change.letter, keys)
    nodes = kept_nodes(tree)
    above = path(tree, room.leaf)
    held = {(0, room.leaf): room.held[(0, room.leaf)]}
    for node in above:
        # A node that the change does not renew keeps its key.
        if node in room.held and node in nodes and nodes[node][0] == lock_term(book, room.held[node]):
            held[node] = room.held[node]
    own = room.leaf == change.leaf
    lowest = 1 if own else meeting(tree, room.leaf, change.leaf)[0]
    if own:
        held[(0, room.leaf)] = keys.node(0)
    for node in above[max(lowest, keys.level) - 1:]:
        held[node] = keys.node(node[0])
    room.held = held
    come_to(world, room, epoch_keys, coming, change.letter)


def taken_letter(world, member, letter):
    """What comes of a letter of words."""
    label, leaf = letter[0][:2]
    for room in ordered_rooms(member):
        for epoch in room.epochs:
            # A leaf without a member has no row of keys, and nobody there writes letters.
            if epoch.label == label and leaf in epoch.turns:
                return opened_letter(world, room, epoch, letter)
    return refused("unlike")


class Opening:
    """How a letter of words for an epoch that is kept opens, of a leaf with a member there; nothing is let go of."""

    def __init__(self, world, epoch, letter):
        place, key, content = letter
        leaf, number = place[1], place[2]
        at, turn = epoch.turns[leaf]
        # The keys that are made on the way, each with its place and the turn behind it.
        self.made = []
        self.words = None
        self.why = None
        right = epoch.kept[leaf].get(number)
        if number < at and right is None:
            self.why = "gone"
        elif number > at + world.window:
            self.why = "far"
        elif number >= at:
            self.made = turned(world.book, at, turn, number)
            right = self.made[-1][1]
        if self.why is None and key != right:
            self.why = "chest"
        if self.why is None:
            marks = world.marks_keys().get(epoch.told_tree.leaves[leaf][0])
            self.words = told_words(world.book, content, marks, place)
            self.why = "mark" if self.words is None else None


def opened_letter(world, room, epoch, letter):
    """What comes of a letter of words for an epoch that is kept, of a leaf with a member there."""
    leaf, number = letter[0][1:]
    opening = Opening(world, epoch, letter)
    if opening.why is not None:
        return refused(opening.why)
    for at, key, behind in opening.made:
        world.ledger.turn("key", epoch.number, leaf, at, key)
        world.ledger.turn("turn", epoch.number, leaf, at + 1, behind)
        epoch.kept[leaf][at] = key
        epoch.turns[leaf] = (at + 1, behind)
    del epoch.kept[leaf][number]
    return "words", room.name, leaf, opening.words


def turned(book, at, turn, number):
    """The keys from a turn's place up to a number, each with its place and the turn behind it."""
    found = []
    for place in range(at, number + 1):
        key = made_term(book, "key", turn)
        turn = made_term(book, "next", turn)
        found.append((place, key, turn))
    return found


def entry_card(book, member, term):
    """The card of a member whose entry's key opens a box, or None."""
    key = locked_by(book, book.parts(term)[0]) if book.kind(term) == "box" else None
    for card in member.cards:
        if key is not None and card[2] == key:
            return card
    return None


def taken_welcome(world, member, card, content):
    """What comes of a welcome that the entry's key of a card opens."""
    book = world.book
    told = told_welcome(book, content)
    about = None if told is None else told_entry(world, told)
    if about is None:
        return refused("mark")
    joiner, way, leaf, maker, context, tree = told[1]
    name, number, tree_print, told_tree = about
    if name in member.joined:
        return refused("room")
    if tree_print != print_term(book, tree) or not has_card(book, member, card, told_tree, leaf):
        return refused("tree")
    held = led_keys(book, told_tree, leaf, maker, way)
    if held is None:
        return refused("tree")
    held[(0, leaf)] = card[1]
    room = Room(name, leaf, held)
    member.cards = [other for other in member.cards if other != card]
    member.joined[name] = room
    come_to(world, room, EpochKeys(book, joiner, None), Entry(book, context, tree, told_tree), None)
    return "entered", name, number


class Entry:
    """The epoch that a welcome leads to."""

    def __init__(self, book, context, tree, told_tree):
        self.label = print_term(book, context)
        self.context = context
        self.tree = tree
        self.told_tree = told_tree


def told_entry(world, told):
    """The room, the number, the tree's print and the Tree of what a welcome tells, or None where it is no right one."""
    marks, parts = told
    about, tree = told_context(world.book, parts[4]), tree_of(world.book, parts[5])
    if about is None or tree is None or not is_word(about[0]) or about[1] > MOST_NUMBER:
        return None
    known = world.marks_keys()
    if not all([leaf is None or leaf[0] in known for leaf in tree.leaves]):
        return None
    if parts[3] not in members(tree) or known[tree.leaves[parts[3]][0]] != marks:
        return None
    return about[0], about[1], about[2], tree


def has_card(book, member, card, tree, leaf):
    """Whether a leaf of a tree has a member with the lock of one of its cards."""
    return is_below(len(tree.leaves), leaf) and tree.leaves[leaf] == (member.name, lock_term(book, card[1]))


def led_keys(book, tree, leaf, maker, way):
    """The keys of the nodes from where two leaves meet, made of p there; None unless these have all their locks."""
    if leaf == maker:
        return None
    level = meeting(tree, leaf, maker)[0]
    keys = PathKeys(book, level, way, tree.height)
    nodes = kept_nodes(tree)
    held = {}
    for node in path(tree, leaf)[level - 1:]:
        lock, aside = nodes.get(node, (None, ()))
        if lock != lock_term(book, keys.node(node[0])) or leaf in aside:
            return None
        held[node] = keys.node(node[0])
    return held
