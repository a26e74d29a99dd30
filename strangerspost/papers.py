"""Papers that tell of a term that it is known of a bag, or that it is not."""

from strangerspost.books import LEAVES, is_below
from strangerspost.knowing import PLAIN, check_asked, is_bag, learner, made_of, opening

# How many elder steps each rule is of; as many as the term has parts, for "build".
ORIGINS = {"have": 0, "plain": 0, "item": 1, "unbox": 2, "unchest": 2, "unmark": 1}

# The kind of what each rule opens.
OPENED_KINDS = {"item": "row", "unbox": "box", "unchest": "chest", "unmark": "mark"}


def is_steps(book, bag, term, thing):
    """Whether a thing is steps of a bag, the last one leading to a term."""
    check_asked(book, bag, term)
    if not isinstance(thing, tuple):
        return False
    have = {part: True for part in bag}
    led = []
    for triple in thing:
        if not is_step(book, have, led, triple):
            return False
        led.append(triple[2])
    return len(led) > 0 and led[-1] == term


def is_step(book, have, led, triple):
    """Whether a triple is a right step behind those that led to some terms."""
    if not isinstance(triple, tuple) or len(triple) != 3:
        return False
    rule, origin, term = triple
    if not isinstance(rule, str) or not isinstance(origin, tuple) or not is_below(book.size(), term):
        return False
    if not all([is_below(len(led), elder) for elder in origin]):
        return False
    elders = tuple([led[elder] for elder in origin])
    if rule == "build":
        return book.kind(term) not in LEAVES and book.parts(term) == elders
    if rule not in ORIGINS or len(elders) != ORIGINS[rule]:
        return False
    if rule == "have":
        return term in have
    if rule == "plain":
        return book.kind(term) in PLAIN
    key, contents = opening(book, elders[0])
    if book.kind(elders[0]) != OPENED_KINDS[rule] or term not in contents:
        return False
    return len(elders) == 1 or elders[1] == key


def is_bar(book, bag, term, thing):
    """Whether a thing is a bar of a term, holding a bag."""
    check_asked(book, bag, term)
    if not is_bag(book, thing):
        return False
    held = {part: True for part in thing}
    if len(held) < len(thing) or not all([part in held for part in bag]):
        return False
    openings = [opening(book, part) for part in thing]
    keys = [key for key, contents in openings if key is not None]
    made = made_of(book, held, keys + [term])
    if term in made:
        return False
    for key, contents in openings:
        if (key is None or key in made) and not all([part in held for part in contents]):
            return False
    return True


def steps(book, bag, term):
    """Steps of a bag to a term, none to a term twice, or None."""
    check_asked(book, bag, term)
    return learner(book, bag).steps(term)


def bar(book, bag, term):
    """All that is opened of a bag, if a term is not known of it, or None."""
    check_asked(book, bag, term)
    return learner(book, bag).bar(term)
