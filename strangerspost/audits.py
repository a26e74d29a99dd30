"""Audits: how the members of a room stand to each other, and what the stranger has of them."""

from strangerspost.shapes import told_change, told_context, told_letter
from strangerspost.taking import Opening, taken


def those_in(world, room):
    """The ascending list of the names of the members that are in a room of this name, each with what it holds of it."""
    return [(name, world.held[name].joined[room]) for name in sorted(world.names) if room in world.rooms(name)]


def epoch_number(world, room):
    """The number of the epoch in which the member of a room is."""
    return told_context(world.book, room.own().context)[1]


def room_of(world, room):
    """The ascending list of pairs of the members that are in a room of this name and the numbers of their epochs."""
    return [(name, epoch_number(world, joined)) for name, joined in those_in(world, room)]


def sides(world, room):
    """The ascending list of the tuples of the names of those with one context."""
    found = {}
    for name, joined in those_in(world, room):
        found.setdefault(joined.own().context, []).append(name)
    return sorted([tuple(names) for names in found.values()])


def parted(world, room, one, other):
    """The number of the first epoch at which two members were with unlike labels, or None."""
    first = labels_of(world, one, room)
    second = labels_of(world, other, room)
    apart = [number for number in first if number in second and first[number] != second[number]]
    return min(apart, default=None)


def labels_of(world, member, room):
    """The dict from the numbers of the epochs at which a member was to their labels, counted back from the last one."""
    joined = world.holding(member, room)[1]
    last = epoch_number(world, joined)
    return {last - at: pair[0] for at, pair in enumerate(joined.been[::-1])}


def behind(world, member, room):
    """The tuple of the numbers of the changes that a member would take, the least first each time."""
    trial = world.copy()
    holder = trial.holding(member, room)[0]
    found = []
    number = next_taken(trial, holder, room)
    while number is not None:
        found.append(number)
        number = next_taken(trial, holder, room) if room in holder.joined else None
    return tuple(found)


def next_taken(trial, holder, room):
    """The least number of a change in the post that a member takes, which it does then, or None."""
    label = holder.joined[room].own().label
    for number, term in enumerate(trial.post()):
        change = told_change(trial.book, term)
        if change is not None and change.label == label and taken(trial, holder, term)[0] != "refused":
            return number
    return None


def readable(world, member, room):
    """The lot of the numbers of the letters of a room that a member could open just now."""
    # Keys are made on the way.
    trial = world.copy()
    joined = trial.holding(member, room)[1]
    return tuple([number for number, term in enumerate(trial.post()) if opens(trial, joined, term)])


def opens(trial, room, term):
    """Whether the member of a room opens a letter of it."""
    letter = told_letter(trial.book, term)
    if letter is None:
        return False
    label, leaf = letter[0][:2]
    epochs = [epoch for epoch in room.epochs if epoch.label == label and leaf in epoch.turns]
    return len(epochs) > 0 and Opening(trial, epochs[0], letter).why is None


def exposed(world, member, room):
    """The ascending tuple of the words for what the stranger knows of what a member holds of a room."""
    holder, joined = world.holding(member, room)
    epoch, leaf = joined.own(), (0, joined.leaf)
    held = {
        "chain": [joined.chain],
        "leaf": [joined.held[leaf]],
        "mark": [holder.marks],
        "nodes": [joined.held[node] for node in joined.held if node != leaf],
        "seal": [joined.seal],
        "turns": epoch.row_terms(),
    }
    return tuple([word for word in sorted(held) if any([world.knows(term) for term in held[word]])])


def let_go(world):
    """The ascending list of the terms of the book that are not known of all stores and the bag together."""
    everybody = world.knower.copy(world.book)
    for name in world.names:
        for term in world.store(name):
            everybody.learn(term)
    terms = list(range(world.book.size()))
    found = everybody.known_among(terms)
    return [term for term in terms if term not in found]
