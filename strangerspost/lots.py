"""Lots of bags of which together a term is known, and what bags know alike."""

from strangerspost.errors import NoBags
from strangerspost.knowing import PLAIN, inner, is_bag, learner, opened
from strangerspost.leastlots import least_lots

MOST_BAGS = 12


def enough(book, bags, term):
    """The least lots of bags of which together a term is known."""
    return both_lots(book, bags, term)[0]


def keeps(book, bags, term):
    """The least lots of bags without which, of all others together, a term is not known."""
    return both_lots(book, bags, term)[1]


def both_lots(book, bags, term):
    """The least lots of bags that know a term, and those without which it is not known."""
    if not isinstance(bags, list) or len(bags) > MOST_BAGS or not all([is_bag(book, bag) for bag in bags]):
        raise NoBags()
    book.kind(term)
    return least_lots(len(bags), lambda lot: learner(book, together(bags, lot)).knows(term))


def together(bags, lot):
    """The terms of all bags of a lot."""
    return [term for at in lot for term in bags[at]]


def core(book, bag):
    """The ascending tuple of what is opened of a bag and cannot be made of the others there."""
    found = opened(book, bag)
    have = {term: True for term in found}
    return tuple([term for term in found if not can_be_built(book, have, term)])


def can_be_built(book, have, term):
    """Whether a term that is opened is made of others that are opened."""
    kind = book.kind(term)
    # Parts of what is opened that can be made are opened themselves, as they stand within the bag.
    return kind in PLAIN or (kind != "fresh" and all([part in have for part in inner(book, term)]))


def alike(book, bag, other):
    """Whether two bags know the same terms."""
    return core(book, bag) == core(book, other)
