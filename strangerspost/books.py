"""Books of terms."""

from strangerspost.errors import NoKind, NoParts, NoTerm, NoTerms

MOST_SIGNS = 40
MOST_ITEMS = 400
NUMBER_BOUND = 10 ** 12

# How many terms each kind but a row has as parts.
COUNTS = {"made": 2, "lock": 1, "box": 2, "chest": 2, "mark": 2, "print": 1}

# The kinds whose part is no term of the book.
LEAVES = ("name", "number", "fresh")

# The kinds that can be put in; fresh terms are made by the book alone.
PUT_KINDS = ("name", "number", "row", "made", "lock", "box", "chest", "mark", "print")


def is_below(bound, thing):
    """Whether a thing is a number below a bound."""
    if not isinstance(thing, int) or isinstance(thing, bool):
        return False
    return 0 <= thing < bound


def is_sign(sign):
    """Whether a string of one sign may stand in a name; the empty string may not."""
    return " " <= sign <= "~"


def is_name_text(thing):
    """Whether a thing is the text of a name."""
    if not isinstance(thing, str) or len(thing) > MOST_SIGNS:
        return False
    return all([is_sign(sign) for sign in thing])


class Book:
    """Terms by their numbers, from 0 on as they are put in."""

    def __init__(self):
        self._kinds = []
        self._parts = []
        # Depths are kept: a term may be too deep for a recursion to find its depth.
        self._depths = []
        self._numbers = {}
        self._fresh_count = 0

    def __eq__(self, other):
        return isinstance(other, Book) and self._kinds == other._kinds and self._parts == other._parts

    def put(self, kind, parts):
        """The number of the term of this kind with these parts, put in unless it stands there."""
        if not isinstance(kind, str) or kind not in PUT_KINDS:
            raise NoKind()
        if not self._fits(kind, parts):
            raise NoParts()
        number = self.number_of(kind, parts)
        return self._put_new(kind, parts) if number is None else number

    def fresh(self):
        """The number of a new fresh term."""
        self._fresh_count += 1
        return self._put_new("fresh", (self._fresh_count - 1,))

    def size(self):
        """How many terms there are."""
        return len(self._kinds)

    def fresh_count(self):
        """How many fresh terms there are."""
        return self._fresh_count

    def number_of(self, kind, parts):
        """The number of the term of this kind with these parts, or None if it does not stand there."""
        return self._numbers.get((kind, parts))

    def kind(self, term):
        """The kind of a term."""
        self._check(term)
        return self._kinds[term]

    def parts(self, term):
        """The parts of a term."""
        self._check(term)
        return self._parts[term]

    def depth(self, term):
        """1, or one more than the depth of the deepest of a term's parts that are terms."""
        self._check(term)
        return self._depths[term]

    def within(self, terms):
        """The ascending list of all terms within those of a list or tuple, themselves too."""
        if not isinstance(terms, (list, tuple)) or not self._are_terms(terms):
            raise NoTerms()
        found = {}
        waiting = list(terms)
        while waiting:
            term = waiting.pop()
            if term not in found:
                found[term] = True
                waiting.extend(self._inner(term))
        return sorted(found)

    def copy(self):
        """A book of the same terms that goes on apart."""
        other = Book()
        other._kinds = list(self._kinds)
        other._parts = list(self._parts)
        other._depths = list(self._depths)
        other._numbers = {key: self._numbers[key] for key in self._numbers}
        other._fresh_count = self._fresh_count
        return other

    def _check(self, term):
        if not is_below(self.size(), term):
            raise NoTerm()

    def _are_terms(self, things):
        size = self.size()
        return all([is_below(size, thing) for thing in things])

    def _fits(self, kind, parts):
        if not isinstance(parts, tuple):
            return False
        if kind == "name":
            return len(parts) == 1 and is_name_text(parts[0])
        if kind == "number":
            return len(parts) == 1 and is_below(NUMBER_BOUND, parts[0])
        right = len(parts) <= MOST_ITEMS if kind == "row" else len(parts) == COUNTS[kind]
        return right and self._are_terms(parts)

    def _put_new(self, kind, parts):
        number = self.size()
        self._kinds.append(kind)
        self._parts.append(parts)
        self._depths.append(1 + max([self._depths[part] for part in self._inner(number)], default=0))
        self._numbers[(kind, parts)] = number
        return number

    def _inner(self, term):
        return () if self._kinds[term] in LEAVES else self._parts[term]


def carried(book, other, terms):
    """Puts terms of a book, and all within them, into another one: the dict of their numbers there."""
    # Parts have lesser numbers than what they are parts of, so they come first here.
    numbers = {}
    for term in book.within(terms):
        kind, parts = book.kind(term), book.parts(term)
        if kind == "fresh":
            numbers[term] = other.fresh()
        elif kind in LEAVES:
            numbers[term] = other.put(kind, parts)
        else:
            numbers[term] = other.put(kind, tuple([numbers[part] for part in parts]))
    return numbers
