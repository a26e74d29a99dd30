"""Books and things that several tests use."""

from strangerspost.books import Book
from strangerspost.errors import NoKind

# Things of many kinds that are no number of a term of any book.
NO_TERMS = (
    -1, -10 ** 39, 10 ** 39, True, False, None, "", "0", b"", b"0", (), (0,), [], [0], {}, {0: 0}, range(1), NoKind(),
    Book(), int, len, object(),
)


def deep(depth):
    """A thing nested so deep."""
    thing = 0
    for at in range(depth):
        thing = [thing] if at % 3 == 0 else (thing,) if at % 3 == 1 else {at: thing}
    return thing


def full_book():
    """A book with a term of each kind, and their numbers by kinds."""
    book = Book()
    terms = {"fresh": book.fresh()}
    terms["name"] = book.put("name", ("key",))
    terms["number"] = book.put("number", (7,))
    fresh, name, number = terms["fresh"], terms["name"], terms["number"]
    terms["row"] = book.put("row", (name, number, fresh, name))
    terms["made"] = book.put("made", (name, fresh))
    terms["lock"] = book.put("lock", (fresh,))
    terms["box"] = book.put("box", (terms["lock"], terms["row"]))
    terms["chest"] = book.put("chest", (terms["made"], number))
    terms["mark"] = book.put("mark", (fresh, terms["box"]))
    terms["print"] = book.put("print", (terms["mark"],))
    return book, terms


def told(book):
    """All that a book tells of its terms."""
    return [(book.kind(term), book.parts(term), book.depth(term)) for term in range(book.size())]


def random_book(random, steps):
    """A book of so many terms that are put in by chance."""
    book = Book()
    book.fresh()
    while book.size() < steps:
        some = [random.randrange(book.size()) for _ in range(4)]
        kind = random.choice(("fresh", "name", "number", "row", "made", "lock", "box", "chest", "mark", "print"))
        if kind == "fresh":
            book.fresh()
        elif kind == "name":
            book.put(kind, ("".join(random.choices('ab "\\~,()', k=random.randrange(6))),))
        elif kind == "number":
            book.put(kind, (random.choice((0, 1, 9, 10, 123, 10 ** 12 - 1)),))
        elif kind == "row":
            book.put(kind, tuple(some[:random.randrange(5)]))
        else:
            book.put(kind, tuple(some[:1 if kind in ("lock", "print") else 2]))
    return book


def wrong_bags(book):
    """Things of many kinds that are no bag of terms of a book with a term."""
    size = book.size()
    return (
        [], [0], {}, {0: 0}, "", b"", range(1), 0, -1, True, None, Book(), tuple, NoKind(), (size,), (0, size), (-1,),
        (True,), (0, False), ((0,),), ([0],), ("0",), (b"0",), (None,), (10 ** 39,), (-10 ** 39,), (Book(),), deep(40),
        [(0,)], (0, deep(38)),
    )


def knot(random, most):
    """A small book of terms drawn by chance, many of them locked with others; some of its lock's places are no locks."""
    book = Book()
    for _ in range(random.randrange(1, 4)):
        book.fresh()
    while book.size() < most:
        one, other = random.randrange(book.size()), random.randrange(book.size())
        kind = random.choice(("fresh", "name", "row", "made", "lock", "box", "box", "chest", "chest", "mark", "print"))
        if kind == "fresh":
            book.fresh()
        elif kind == "name":
            book.put(kind, (random.choice("ab"),))
        elif kind == "row":
            book.put(kind, tuple([one, other, one][:random.randrange(4)]))
        elif kind in ("lock", "print"):
            book.put(kind, (one,))
        elif kind == "box" and random.random() < 0.8:
            book.put(kind, (book.put("lock", (one,)), other))
        else:
            book.put(kind, (one, other))
    return book


def drawn_bag(random, book, most=4):
    """A bag of some terms of a book, perhaps some twice."""
    return tuple([random.randrange(book.size()) for _ in range(random.randrange(most + 1))])


def plainly_known(book, bag, near):
    """What of near terms, and all within the bag, is known of a bag, by trying each rule until nothing is new."""
    terms = book.within(bag + tuple(near))
    known = set(bag)
    grown = True
    while grown:
        count = len(known)
        for term in terms:
            kind, parts = book.kind(term), book.parts(term)
            if kind in ("name", "number"):
                known.add(term)
            elif kind != "fresh" and set(parts) <= known:
                known.add(term)
            if term not in known:
                continue
            if kind == "row":
                known.update(parts)
            elif kind == "mark":
                known.add(parts[1])
            elif kind == "chest" and parts[0] in known:
                known.add(parts[1])
            elif kind == "box" and book.kind(parts[0]) == "lock" and book.parts(parts[0])[0] in known:
                known.add(parts[1])
        grown = len(known) > count
    return known
