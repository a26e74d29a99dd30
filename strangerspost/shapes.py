"""The terms that rooms are made of: contexts, cards, changes, welcomes and letters, put in and read."""

from strangerspost.terms import (
    chest_term, locked_by, lock_term, mark_term, name_term, number_term, print_term, row_term, told_named, told_part,
    told_row,
)


def context_term(book, room, number, tree, trail):
    """The context of an epoch, of the number and the tree's term."""
    head = (name_term(book, "context"), name_term(book, room), number_term(book, number))
    return row_term(book, head + (print_term(book, tree), trail))


def told_context(book, term):
    """The name of the room, the number, the tree's print and the trail that a context tells, or None."""
    parts = told_named(book, term, "context", 5)
    if parts is None:
        return None
    room, number = told_part(book, "name", parts[0]), told_part(book, "number", parts[1])
    return None if room is None or number is None else (room, number, parts[2], parts[3])


def found_term(book, context, tree):
    """What a founder hands in."""
    return row_term(book, (name_term(book, "found"), context, tree))


def card_term(book, marks, name, key, entry):
    """The card of a member, marked with its marks' key."""
    parts = (name_term(book, "card"), name_term(book, name), lock_term(book, key), lock_term(book, entry))
    return mark_term(book, marks, row_term(book, parts))


def told_mark(book, term):
    """The key and the content of a mark, or (None, None)."""
    return book.parts(term) if book.kind(term) == "mark" else (None, None)


def told_card(book, term):
    """The marks' key, the member's name, the leaf's and the entry's lock that a card tells, or None."""
    marks, content = told_mark(book, term)
    parts = None if content is None else told_named(book, content, "card", 4)
    if parts is None or locked_by(book, parts[1]) is None or locked_by(book, parts[2]) is None:
        return None
    name = told_part(book, "name", parts[0])
    return None if name is None else (marks, name, parts[1], parts[2])


def wish_term(book, wish):
    """A wish in a change's letter, of a card's term or a leaf."""
    word, of = wish
    return row_term(book, (name_term(book, word), of if word == "add" else number_term(book, of)))


def told_wish(book, term):
    """The wish that a term tells, or None."""
    added, removed = told_named(book, term, "add", 2), told_named(book, term, "remove", 2)
    if added is not None:
        return "add", added[0]
    leaf = None if removed is None else told_part(book, "number", removed[0])
    return None if leaf is None else ("remove", leaf)


def body_term(book, label, leaf, wishes, locks, boxes):
    """What the maker of a change marks; of each level above the leaf a lock, and the boxes."""
    levels = [row_term(book, (lock, row_term(book, boxed))) for lock, boxed in zip(locks[1:], boxes)]
    wished = row_term(book, [wish_term(book, wish) for wish in wishes])
    parts = (name_term(book, "change"), label, number_term(book, leaf), wished, locks[0], row_term(book, levels))
    return row_term(book, parts)


def seal_print(book, seal, marked):
    """What tells in a change's letter that its maker has the seal."""
    return print_term(book, row_term(book, (seal, marked)))


def next_trail(book, trail, marked):
    """The trail behind a change."""
    return print_term(book, row_term(book, (trail, marked)))


def joiner_term(book, label, chain, root):
    """The joiner of an epoch with this label, that came of a chain by a change's root."""
    return book.put("made", (label, row_term(book, (chain, root))))


def welcome_term(book, marks, parts):
    """The content of a welcome: the joiner, p(j), both leaves, the context and the tree's term."""
    joiner, way, leaf, maker, context, tree = parts
    numbers = (number_term(book, leaf), number_term(book, maker))
    row = (name_term(book, "welcome"), joiner, way) + numbers + (context, tree)
    return mark_term(book, marks, row_term(book, row))


def told_welcome(book, term):
    """The marks' key and the parts that the content of a welcome tells, or None."""
    marks, content = told_mark(book, term)
    parts = None if content is None else told_named(book, content, "welcome", 7)
    if parts is None:
        return None
    leaf, maker = told_part(book, "number", parts[2]), told_part(book, "number", parts[3])
    if leaf is None or maker is None:
        return None
    return marks, (parts[0], parts[1], leaf, maker, parts[4], parts[5])


def first_turn(book, leaf, letters):
    """The first turn of a leaf in an epoch with this letters key."""
    return book.put("made", (row_term(book, (name_term(book, "turn"), number_term(book, leaf))), letters))


def words_term(book, marks, place, words):
    """What a letter's chest holds; its place is the label, the leaf and the number."""
    label, leaf, number = place
    row = (name_term(book, "words"), label, number_term(book, leaf), number_term(book, number), words)
    return mark_term(book, marks, row_term(book, row))


def letter_term(book, marks, place, key, words):
    """A letter of words, of the label, the leaf and the number."""
    label, leaf, number = place
    chest = chest_term(book, key, words_term(book, marks, place, words))
    row = (name_term(book, "letter"), label, number_term(book, leaf), number_term(book, number), chest)
    return row_term(book, row)


def told_letter(book, term):
    """The place, the chest's key and its content that a letter tells, or None."""
    parts = told_named(book, term, "letter", 5)
    if parts is None or book.kind(parts[0]) != "print" or book.kind(parts[3]) != "chest":
        return None
    leaf, number = told_part(book, "number", parts[1]), told_part(book, "number", parts[2])
    if leaf is None or number is None:
        return None
    key, content = book.parts(parts[3])
    return (parts[0], leaf, number), key, content


def told_words(book, term, marks, place):
    """The words that what was in a chest tells, marked with this key for this place, or None.

    The key is None where nobody of the world is at the place.
    """
    key, content = told_mark(book, term)
    parts = None if key is None or key != marks else told_named(book, content, "words", 5)
    if parts is None or parts[0] != place[0]:
        return None
    numbers = (told_part(book, "number", parts[1]), told_part(book, "number", parts[2]))
    return parts[3] if numbers == place[1:] else None


class ToldChange:
    """What a change's letter tells to those who have no key."""

    def __init__(self, letter, marks, marked, sealed, behind):
        self.letter = letter
        self.marks = marks
        self.marked = marked
        self.sealed = sealed
        # The print of the new context.
        self.behind = behind
        self.label = None
        self.leaf = None
        self.wishes = ()
        # The locks from the leaf's on, and of each level above it the boxes, pairs of lock and content.
        self.locks = ()
        self.boxes = ()


def told_change(book, term):
    """What a change's letter tells, or None."""
    parts = told_row(book, term, 3)
    if parts is None or book.kind(parts[1]) != "print" or book.kind(parts[2]) != "print":
        return None
    marks, content = told_mark(book, parts[0])
    body = None if content is None else told_named(book, content, "change", 6)
    if body is None or book.kind(body[0]) != "print" or locked_by(book, body[3]) is None:
        return None
    rows = [told_row(book, body[2], None), told_row(book, body[4], None)]
    if None in rows:
        return None
    change = ToldChange(term, marks, parts[0], parts[1], parts[2])
    wishes = [told_wish(book, wish) for wish in rows[0]]
    levels = [told_level(book, level) for level in rows[1]]
    change.label, change.leaf = body[0], told_part(book, "number", body[1])
    if change.leaf is None or None in wishes or None in levels:
        return None
    change.wishes = tuple(wishes)
    change.locks = body[3:4] + tuple([level[0] for level in levels])
    change.boxes = tuple([level[1] for level in levels])
    return change


def told_level(book, term):
    """The lock and the boxes that a level of a change tells, or None."""
    parts = told_row(book, term, 2)
    boxes = None if parts is None else told_row(book, parts[1], None)
    if boxes is None or locked_by(book, parts[0]) is None:
        return None
    if not all([book.kind(box) == "box" for box in boxes]):
        return None
    return parts[0], tuple([book.parts(box) for box in boxes])
