"""The sentences that what members of a world hold must fulfil, one behind another."""

from strangerspost.shapes import told_card, told_change, told_context
from strangerspost.terms import locked_by, told_part, told_row
from strangerspost.trees import kept_nodes, members, path

MOST_NUMBER = 10 ** 9


def first_broken(world):
    """The number of the first sentence that a world breaks, or None.

    Of each epoch the label and the tree are there, or None where its context and its tree's term tell none.
    """
    for at in range(len(SENTENCES)):
        holds = SENTENCES[at]
        if not holds(world):
            return at + 1
    return None


def all_rooms(world):
    """The list of the rooms of all members, each with its member."""
    return [(member, room) for member in world.held.values() for room in member.joined.values()]


def all_epochs(world):
    """The list of the epochs that are kept by all members, each with its room."""
    return [(room, epoch) for member, room in all_rooms(world) for epoch in room.epochs]


def made_key(book, word, term):
    """The key that a term is made of with a name as its label, or None."""
    if book.kind(term) != "made":
        return None
    label, key = book.parts(term)
    return key if told_part(book, "name", label) == word else None


def first_key(book, leaf, term):
    """The letters key whose first turn of a leaf a term is, or None."""
    if book.kind(term) != "made":
        return None
    label, key = book.parts(term)
    items = told_row(book, label, 2)
    if items is None or told_part(book, "name", items[0]) != "turn" or told_part(book, "number", items[1]) != leaf:
        return None
    return key


def turn_key(book, leaf, place, term):
    """The letters key whose turn of a leaf, at this place, a term is, or None."""
    for _ in range(min(place, book.size())):
        behind = made_key(book, "next", term)
        if behind is None:
            return None
        term = behind
    # A turn has more terms within it than its place tells.
    return first_key(book, leaf, term) if place < book.size() else None


def has_bag(world):
    """1: the bag has all of the post, and the locks of all keys of marks."""
    have = {term: True for term in world.knower.bag()}
    locks = [world.book.number_of("lock", (key,)) for key in world.marks_keys().values()]
    return all([term in have for term in world.posted + locks])


def has_marks(world):
    """2: keys of marks are fresh, and unlike; a card's term is the member's, its keys fresh."""
    book = world.book
    keys = list(world.marks_keys().values())
    if len({key: True for key in keys}) < len(keys) or not all([book.kind(key) == "fresh" for key in keys]):
        return False
    return all([is_card(world, member, card) for member in world.held.values() for card in member.cards])


def is_card(world, member, card):
    """Whether a card is the member's, and its keys are fresh."""
    book, (number, key, entry) = world.book, card
    told = told_card(book, world.posted[number])
    if told is None or told[:2] != (member.marks, member.name):
        return False
    fresh = book.kind(key) == "fresh" and book.kind(entry) == "fresh"
    return fresh and (locked_by(book, told[2]), locked_by(book, told[3])) == (key, entry)


def has_epochs(world):
    """3: of a room some epoch is kept, all of its name, with trees that have the member at the leaf."""
    rooms = all_rooms(world)
    if not all([room.epochs for member, room in rooms]):
        return False
    return all([is_epoch_of(world, member, room, epoch) for member, room in rooms for epoch in room.epochs])


def is_epoch_of(world, member, room, epoch):
    """Whether an epoch is one of a member's room."""
    about, tree = told_context(world.book, epoch.context), epoch.told_tree
    if about is None or tree is None or about[0] != room.name or about[1] > MOST_NUMBER:
        return False
    if world.book.number_of("print", (epoch.tree,)) != about[2] or room.leaf >= len(tree.leaves):
        return False
    return tree.leaves[room.leaf] is not None and tree.leaves[room.leaf][0] == member.name


def has_keys(world):
    """4: each key that is held is that of the leaf, which is held, or of a node above it, by the own tree's locks."""
    return all([holds_right(world.book, room) for member, room in all_rooms(world)])


def holds_right(book, room):
    """Whether a room's keys are those of its leaf and of nodes above it."""
    tree = room.own().told_tree
    nodes = kept_nodes(tree)
    above = path(tree, room.leaf)
    locks = {node: nodes[node][0] for node in above if node in nodes}
    leaf = (0, room.leaf)
    locks[leaf] = tree.leaves[room.leaf][1]
    if leaf not in room.held:
        return False
    return all([node in locks and locked_by(book, locks[node]) == room.held[node] for node in room.held])


def has_chains(world):
    """5: chain and seal are made of one epoch key, which is fresh or made as such."""
    return all([is_chained(world.book, room) for member, room in all_rooms(world)])


def is_chained(book, room):
    """Whether the chain and the seal of a room are made of one epoch key."""
    key = made_key(book, "chain", room.chain)
    if key is None or made_key(book, "seal", room.seal) != key:
        return False
    return book.kind(key) == "fresh" or made_key(book, "epoch", key) is not None


def has_been(world):
    """6: where a member has been is told by unlike labels and the changes that it took, its epochs last."""
    return all([was_there(world, room) for member, room in all_rooms(world)])


def was_there(world, room):
    """Whether a room tells rightly where its member has been."""
    labels = [label for label, letter in room.been]
    if not labels or room.been[-1][1] is not None or len({label: True for label in labels}) < len(labels):
        return False
    if not all([is_change_for(world.book, label, letter) for label, letter in room.been[:-1]]):
        return False
    count = min(len(labels), world.keep + 1)
    return [epoch.label for epoch in room.epochs] == labels[-count:]


def is_change_for(book, label, letter):
    """Whether a letter is that of a change for the epoch with a label."""
    change = None if letter is None else told_change(book, letter)
    return change is not None and change.label == label


def has_turns(world):
    """7: in each epoch all leaves with members have turns of one letters key, and lesser keys are kept."""
    for room, epoch in all_epochs(world):
        key = letters_key(world.book, epoch)
        if key is None or not all([is_kept_right(world.book, epoch, leaf, key) for leaf in epoch.kept]):
            return False
        if epoch == room.own() and made_key(world.book, "letters", key) != made_key(world.book, "chain", room.chain):
            return False
    return True


def letters_key(book, epoch):
    """The letters key of which all turns of an epoch are, or None."""
    if tuple(epoch.turns) != members(epoch.told_tree):
        return None
    keys = {turn_key(book, leaf, epoch.turns[leaf][0], epoch.turns[leaf][1]): True for leaf in epoch.turns}
    key = list(keys)[0]
    if len(keys) > 1 or key is None or made_key(book, "letters", key) is None:
        return None
    return key


def is_kept_right(book, epoch, leaf, letters):
    """Whether the kept keys of a leaf are those of turns ahead of its own one."""
    place = epoch.turns[leaf][0]
    for number in epoch.kept[leaf]:
        turn = made_key(book, "key", epoch.kept[leaf][number])
        if turn is None or number >= place or turn_key(book, leaf, number, turn) != letters:
            return False
    return True


def has_pending(world):
    """8: the pending letter is that of a change of the leaf, for the own context, and lies in the post."""
    posted = {term: True for term in world.posted}
    return all([room.pending is None or is_pending(world.book, room, posted) for member, room in all_rooms(world)])


def is_pending(book, room, posted):
    """Whether what is pending in a room is a change of its leaf, and tells the lock of the leaf's new key."""
    letter, start = room.pending
    change = told_change(book, letter)
    if change is None or change.leaf != room.leaf or change.label != room.own().label or letter not in posted:
        return False
    return made_key(book, "node", locked_by(book, change.locks[0])) == start


def has_come(world):
    """9: by the notes the epoch key of each epoch that is kept has come."""
    return all([epoch_key(world.book, epoch) in world.ledger.epochs for room, epoch in all_epochs(world)])


def epoch_key(book, epoch):
    """The epoch key of an epoch whose turns are right."""
    return made_key(book, "letters", letters_key(book, epoch))


SENTENCES = (
    has_bag, has_marks, has_epochs, has_keys, has_chains, has_been, has_turns, has_pending, has_come,
)
