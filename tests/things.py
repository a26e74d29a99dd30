"""Books and things that several tests use."""

from strangerspost.books import Book
from strangerspost.errors import NoKind

# Things of many kinds that are no number of a term of any book.
NO_TERMS = (
    -1, -10 ** 39, 10 ** 39, True, False, None, "", "0", b"", b"0", (), (0,), [], [0], {}, {0: 0}, range(1), NoKind(),
    Book(), int, len, object(),
)


def deep(depth):
    """A thing nested so deep."""
    thing = 0
    for at in range(depth):
        thing = [thing] if at % 3 == 0 else (thing,) if at % 3 == 1 else {at: thing}
    return thing


def full_book():
    """A book with a term of each kind, and their numbers by kinds."""
    book = Book()
    terms = {"fresh": book.fresh()}
    terms["name"] = book.put("name", ("key",))
    terms["number"] = book.put("number", (7,))
    fresh, name, number = terms["fresh"], terms["name"], terms["number"]
    terms["row"] = book.put("row", (name, number, fresh, name))
    terms["made"] = book.put("made", (name, fresh))
    terms["lock"] = book.put("lock", (fresh,))
    terms["box"] = book.put("box", (terms["lock"], terms["row"]))
    terms["chest"] = book.put("chest", (terms["made"], number))
    terms["mark"] = book.put("mark", (fresh, terms["box"]))
    terms["print"] = book.put("print", (terms["mark"],))
    return book, terms


def told(book):
    """All that a book tells of its terms."""
    return [(book.kind(term), book.parts(term), book.depth(term)) for term in range(book.size())]


def random_book(random, steps):
    """A book of so many terms that are put in by chance."""
    book = Book()
    book.fresh()
    while book.size() < steps:
        some = [random.randrange(book.size()) for _ in range(4)]
        kind = random.choice(("fresh", "name", "number", "row", "made", "lock", "box", "chest", "mark", "print"))
        if kind == "fresh":
            book.fresh()
        elif kind == "name":
            book.put(kind, ("".join(random.choices('ab "\\~,()', k=random.randrange(6))),))
        elif kind == "number":
            book.put(kind, (random.choice((0, 1, 9, 10, 123, 10 ** 12 - 1)),))
        elif kind == "row":
            book.put(kind, tuple(some[:random.randrange(5)]))
        else:
            book.put(kind, tuple(some[:1 if kind in ("lock", "print") else 2]))
    return book
