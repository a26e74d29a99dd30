"""The lines of images that tell what a member holds."""

from strangerspost.members import Epoch, Member, Room
from strangerspost.words import is_word

# What stands in a line for no term.
NOTHING = "-"


def member_rows(member):
    """The lines of a member: pairs of their words, numbers among them, and of the terms behind these."""
    rows = [(("member", member.name), (member.marks,))]
    for number, key, entry in sorted(member.cards):
        rows.append((("card", number), (key, entry)))
    for name in sorted(member.joined):
        rows.extend(room_rows(member.joined[name]))
    return rows


def room_rows(room):
    """The lines of a room of a member."""
    rows = [(("room", room.name, room.leaf), ())]
    for level, at in sorted(room.held):
        rows.append((("key", level, at), (room.held[(level, at)],)))
    rows.append((("chain",), (room.chain, room.seal)))
    rows.extend([(("been",), pair) for pair in room.been])
    for epoch in room.epochs:
        rows.extend(epoch_rows(epoch))
    if room.pending is not None:
        rows.append((("pending",), room.pending))
    return rows


def epoch_rows(epoch):
    """The lines of an epoch that a member keeps."""
    rows = [(("epoch",), (epoch.context, epoch.tree))]
    for leaf in sorted(epoch.turns):
        place, turn = epoch.turns[leaf]
        rows.append((("turn", leaf, place), (turn,)))
        for number in sorted(epoch.kept[leaf]):
            rows.append((("kept", leaf, number), (epoch.kept[leaf][number],)))
    return rows


def row_line(row, numbers):
    """A line, of the numbers that terms have there; None for numbers where they keep those of the book."""
    words, terms = row
    found = [str(word) for word in words]
    for term in terms:
        if term is None:
            found.append(NOTHING)
        else:
            found.append(str(term if numbers is None else numbers[term]))
    return " ".join(found)


def read_member(lines, size, post_size):
    """The member that the next lines tell, of a book of so many terms; the post may be of any size, None.

    Of its epochs just that is there which the lines tell.
    """
    name, word = lines.tail("member", 2)
    lines.check(is_word(name))
    member = Member(name, lines.numbers((word,), (size,))[0])
    lines.step()
    while lines.head() == "card":
        card = lines.numbers(lines.tail("card", 3), (post_size, size, size))
        lines.check(not member.cards or member.cards[-1][0] < card[0])
        member.cards.append(card)
        lines.step()
    last = ""
    while lines.head() == "room":
        room = read_room(lines, size, last)
        member.joined[room.name] = room
        last = room.name
    return member


def read_room(lines, size, last):
    """The room that the next lines tell, its name behind that of the last one."""
    name, word = lines.tail("room", 2)
    lines.check(is_word(name) and last < name)
    room = Room(name, lines.numbers((word,), (None,))[0], {})
    lines.step()
    last = (-1, -1)
    while lines.head() == "key":
        level, at, key = lines.numbers(lines.tail("key", 3), (None, None, size))
        lines.check(last < (level, at))
        last = (level, at)
        room.held[last] = key
        lines.step()
    room.chain, room.seal = lines.numbers(lines.tail("chain", 2), (size, size))
    lines.step()
    while lines.head() == "been":
        room.been.append(read_been(lines, size))
    while lines.head() == "epoch":
        room.epochs.append(read_epoch(lines, size))
    if lines.head() == "pending":
        room.pending = lines.numbers(lines.tail("pending", 2), (size, size))
        lines.step()
    return room


def read_been(lines, size):
    """The label that the next line tells, and the letter that was taken there, or None."""
    label, letter = lines.tail("been", 2)
    if letter == NOTHING:
        pair = (lines.numbers((label,), (size,))[0], None)
    else:
        pair = lines.numbers((label, letter), (size, size))
    lines.step()
    return pair


def read_epoch(lines, size):
    """The epoch that the next lines tell."""
    context, tree = lines.numbers(lines.tail("epoch", 2), (size, size))
    epoch = Epoch(None, None, context, tree, None)
    lines.step()
    last = -1
    while lines.head() == "turn":
        leaf, place, turn = lines.numbers(lines.tail("turn", 3), (None, None, size))
        lines.check(last < leaf)
        last = leaf
        epoch.turns[leaf] = (place, turn)
        lines.step()
        epoch.kept[leaf] = read_kept(lines, size, leaf)
    return epoch


def read_kept(lines, size, leaf):
    """The dict of the keys that the next lines tell to be kept of a leaf, by their places."""
    kept = {}
    last = -1
    while lines.head() == "kept":
        told, place, key = lines.numbers(lines.tail("kept", 3), (None, None, size))
        lines.check(told == leaf and last < place)
        last = place
        kept[place] = key
        lines.step()
    return kept
