"""Worlds as texts, and texts restored to worlds."""

from strangerspost.booktexts import read_terms, term_lines
from strangerspost.errors import BadImage, BadWorld, Unsound
from strangerspost.knowing import learner
from strangerspost.lines import Lines
from strangerspost.memberlines import member_rows, read_member, row_line
from strangerspost.notes import note_lines, read_notes
from strangerspost.soundness import epoch_key, first_broken
from strangerspost.trees import tree_of
from strangerspost.words import ascends
from strangerspost.world import World


def world_image(world):
    """The lines of all that is there in a world."""
    rows = [f"world {world.window} {world.keep}"]
    rows.extend(["term " + line for line in term_lines(world.book)])
    rows.extend([f"post {term}" for term in world.posted])
    rows.append(" ".join(["bag"] + [str(term) for term in world.bag()]))
    rows.extend(note_lines(world))
    for name in world.names:
        rows.extend([row_line(row, None) for row in member_rows(world.held[name])])
    return "".join([row + "\n" for row in rows])


def restored(text):
    """The world of an image."""
    told = Told(Lines(text))
    world = World(tuple(told.held), told.window, told.keep)
    world.book, world.ledger, world.posted, world.held = told.book, told.ledger, told.posted, told.held
    world.knower = learner(told.book, told.had)
    stolen = {term: True for store in told.ledger.thefts for term in store}
    # What was stolen the stranger may have got besides, which the notes tell; all else it has openly.
    world.openly = learner(told.book, [term for term in told.had if term not in stolen] + told.got)
    epochs = [epoch for member in told.held.values() for room in member.joined.values() for epoch in room.epochs]
    for epoch in epochs:
        epoch.label = told.book.number_of("print", (epoch.context,))
        epoch.told_tree = tree_of(told.book, epoch.tree)
    broken = first_broken(world)
    if broken is not None:
        raise Unsound(broken)
    for epoch in epochs:
        epoch.number = told.ledger.epochs[epoch_key(told.book, epoch)]
    return world


def is_image(thing):
    """Whether a thing is the image of a world."""
    try:
        restored(thing)
    except (BadImage, BadWorld, Unsound):
        return False
    return True


class Told:
    """What the lines of an image tell."""

    def __init__(self, lines):
        self.window, self.keep = lines.numbers(lines.tail("world", 2), (None, None))
        lines.step()
        self.book = read_terms(lines)
        size = self.book.size()
        self.posted = []
        while lines.head() == "post":
            self.posted.extend(lines.numbers(lines.tail("post", 1), (size,)))
            lines.step()
        self.had = read_bag(lines, size)
        self.ledger, self.got = read_notes(lines, size)
        self.held = {}
        while lines.head() == "member":
            # The name is looked at here: what a member holds does not tell that there is one like it ahead.
            lines.check(lines.tail("member", 2)[0] not in self.held)
            member = read_member(lines, size, len(self.posted))
            self.held[member.name] = member
        lines.close()


def read_bag(lines, size):
    """The tuple of the terms of the bag that the next line tells."""
    words = (lines.row() or "").split(" ")
    lines.check(words[0] == "bag")
    bag = lines.numbers(words[1:], (size,) * (len(words) - 1))
    lines.check(ascends(bag))
    lines.step()
    return bag
