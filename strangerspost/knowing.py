"""What can be known of a bag of terms, and one who learns terms."""

from strangerspost.books import LEAVES, is_below
from strangerspost.errors import NoBag

# The kinds that everybody can make of nothing.
PLAIN = ("name", "number")


def is_bag(book, thing):
    """Whether a thing is a bag of terms of a book."""
    if not isinstance(thing, tuple):
        return False
    size = book.size()
    return all([is_below(size, term) for term in thing])


def check_asked(book, bag, term):
    """Raises what is wrong with a bag and a term of which something is asked."""
    if not is_bag(book, bag):
        raise NoBag()
    # The book raises NoTerm for what is none.
    book.kind(term)


def inner(book, term):
    """The parts of a term that are terms."""
    return () if book.kind(term) in LEAVES else book.parts(term)


def opening(book, term):
    """The key that a term is opened with, None if it needs none, and the terms that are read from it then."""
    kind, parts = book.kind(term), book.parts(term)
    if kind == "row":
        return None, parts
    if kind == "mark":
        return None, parts[1:]
    if kind == "chest":
        return parts[0], parts[1:]
    if kind == "box" and book.kind(parts[0]) == "lock":
        return book.parts(parts[0])[0], parts[1:]
    return None, ()


def made_of(book, have, terms):
    """The dict of all that can be made, without opening, on the way from what one has to terms."""
    near = {}
    waiting = list(terms)
    while waiting:
        term = waiting.pop()
        if term not in near:
            near[term] = True
            # What one has needs no parts.
            waiting.extend([] if term in have else inner(book, term))
    made = {}
    for term in sorted(near):
        parts = inner(book, term)
        built = book.kind(term) not in LEAVES and all([part in made for part in parts])
        if term in have or book.kind(term) in PLAIN or built:
            made[term] = True
    return made


def learner(book, bag):
    """One who has learned a bag."""
    knower = Knower(book)
    for term in bag:
        knower.learn(term)
    return knower


def knows(book, bag, term):
    """Whether a term is known of a bag."""
    check_asked(book, bag, term)
    return learner(book, bag).knows(term)


def makes(book, bag, term):
    """Whether a term is in a bag, or can be made of it without opening anything."""
    check_asked(book, bag, term)
    return term in made_of(book, {part: True for part in bag}, (term,))


def opened(book, bag):
    """The ascending tuple of all terms that are known of a bag and stand within a term of it."""
    if not is_bag(book, bag):
        raise NoBag()
    return learner(book, bag).opened()


class Knower:
    """One who learns terms of a book, which may grow meanwhile."""

    def __init__(self, book):
        self._book = book
        self._learned = {}
        # Only terms within the learned ones are looked at: no others are needed on the way to what is known.
        self._wholes = {}
        self._missing = {}
        self._locked = {}
        # The known ones among them, in the order in which they were come to, with the rule and the terms behind it.
        self._reasons = {}

    def learn(self, term):
        """Learns a term: the ascending tuple of the terms that are opened now and were not ahead."""
        self._book.kind(term)
        self._learned[term] = True
        found = []
        waiting = self._approach(term)
        waiting.append((term, "have", ()))
        while waiting:
            led, rule, origin = waiting.pop()
            if led not in self._reasons:
                self._reasons[led] = (rule, origin)
                found.append(led)
                waiting.extend(self._opened_by(led))
                waiting.extend(self._made_by(led))
        return tuple(sorted(found))

    def bag(self):
        """The tuple of what was learned, in this order."""
        return tuple(self._learned)

    def knows(self, term):
        """Whether a term is known."""
        self._book.kind(term)
        return term in self.known_among((term,))

    def known_among(self, terms):
        """The dict of True for those of some terms that are known, and for others that are made on the way to them."""
        return made_of(self._book, self._reasons, terms)

    def opened(self):
        """The ascending tuple of all terms that are known and stand within a learned one."""
        return tuple(sorted(self._reasons))

    def steps(self, term):
        """Steps that lead to a term, each of which is needed, or None if it is not known."""
        if not self.knows(term):
            return None
        origins = self._origins(term)
        # What was opened was come to in the order of the reasons; what is made of it stands behind its parts.
        ordered = [led for led in self._reasons if led in origins]
        ordered.extend([led for led in sorted(origins) if led not in self._reasons])
        places = {led: at for at, led in enumerate(ordered)}
        rows = []
        for led in ordered:
            rule, origin = origins[led]
            rows.append((rule, tuple([places[elder] for elder in origin]), led))
        return tuple(rows)

    def bar(self, term):
        """All that is opened, if the term is not known, or None."""
        return None if self.knows(term) else self.opened()

    def copy(self, book):
        """A knower of the same, over a copy of the book, that goes on apart."""
        other = Knower(book)
        other._learned = dict(self._learned)
        other._wholes = {part: list(self._wholes[part]) for part in self._wholes}
        other._missing = dict(self._missing)
        other._locked = {key: list(self._locked[key]) for key in self._locked}
        other._reasons = dict(self._reasons)
        return other

    def _approach(self, term):
        """Looks at all within a term that was not looked at: what can be made of known terms at once."""
        near = {}
        waiting = [term]
        while waiting:
            part = waiting.pop()
            if part not in self._missing and part not in near:
                near[part] = True
                waiting.extend(inner(self._book, part))
        found = []
        for whole in sorted(near):
            kind = self._book.kind(whole)
            parts = {part: True for part in inner(self._book, whole)}
            for part in parts:
                self._wholes.setdefault(part, []).append(whole)
            self._missing[whole] = len([part for part in parts if part not in self._reasons])
            if kind in PLAIN:
                found.append((whole, "plain", ()))
            elif kind != "fresh" and self._missing[whole] == 0:
                found.append((whole, "build", self._book.parts(whole)))
        return found

    def _opened_by(self, term):
        """What a term that has become known opens: itself, or what it is the key of."""
        key, contents = opening(self._book, term)
        kind = self._book.kind(term)
        found = []
        if key is None:
            rule = "item" if kind == "row" else "unmark"
            found.extend([(content, rule, (term,)) for content in contents])
        elif key in self._reasons:
            found.append((contents[0], "un" + kind, (term, key)))
        else:
            self._locked.setdefault(key, []).append(term)
        for whole in self._locked.pop(term, []):
            found.append((opening(self._book, whole)[1][0], "un" + self._book.kind(whole), (whole, term)))
        return found

    def _made_by(self, term):
        """What can be made now that a term has become known."""
        found = []
        for whole in self._wholes.get(term, []):
            self._missing[whole] -= 1
            if self._missing[whole] == 0:
                found.append((whole, "build", self._book.parts(whole)))
        return found

    def _origins(self, term):
        """The rule, and the terms that led there, of all terms on the way to one that can be made."""
        origins = {}
        waiting = [term]
        while waiting:
            led = waiting.pop()
            if led in origins:
                continue
            if led in self._reasons:
                origins[led] = self._reasons[led]
            elif self._book.kind(led) in PLAIN:
                origins[led] = ("plain", ())
            else:
                origins[led] = ("build", self._book.parts(led))
            waiting.extend(origins[led][1])
        return origins
