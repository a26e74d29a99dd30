"""Books as texts, a line for each term."""

from strangerspost.books import COUNTS, LEAVES, MOST_ITEMS, Book
from strangerspost.errors import BadTerm
from strangerspost.lines import Lines, plain_number
from strangerspost.texts import quoted, read_quoted

# What the line of a name begins with.
NAMED = 'name "'


def book_text(book):
    """The lines of all terms of a book."""
    return "".join([line + "\n" for line in term_lines(book)])


def term_lines(book):
    """The list of the lines of all terms of a book, by their numbers, without line feeds."""
    return [term_line(book, term) for term in range(book.size())]


def term_line(book, term):
    """The line of a term, which tells its parts by their numbers."""
    kind, parts = book.kind(term), book.parts(term)
    if kind == "name":
        return quoted(parts[0])
    return " ".join([kind] + [str(part) for part in parts])


def read_book(text):
    """The book that a text tells."""
    lines = Lines(text)
    book = Book()
    while lines.row() is not None:
        lines.check(puts_line(book, lines.row()))
        lines.step()
    lines.close()
    return book


def read_terms(lines):
    """The book that the next lines tell, each of them behind the word term."""
    book = Book()
    while lines.head() == "term":
        lines.check(puts_line(book, lines.row().partition(" ")[2]))
        lines.step()
    return book


def puts_line(book, line):
    """Puts in the next term of a book, if a line tells one that can stand there: whether it does."""
    told = told_line(line)
    if told is None or book.number_of(told[0], told[1]) is not None:
        return False
    kind, parts = told
    if kind == "fresh":
        right = parts[0] == book.fresh_count()
        if right:
            book.fresh()
        return right
    # Each part must be ahead, and so there already.
    right = kind in LEAVES or all([part < book.size() for part in parts])
    if right:
        book.put(kind, parts)
    return right


def told_line(line):
    """The kind and the parts that a line tells, or None if it is not written as one."""
    if line.startswith(NAMED):
        return told_name(line)
    words = line.split(" ")
    kind, numbers = words[0], tuple([plain_number(word) for word in words[1:]])
    if None in numbers:
        return None
    if kind == "row":
        return (kind, numbers) if len(numbers) <= MOST_ITEMS else None
    count = 1 if kind in ("number", "fresh") else COUNTS.get(kind)
    return (kind, numbers) if len(numbers) == count else None


def told_name(line):
    """The kind and the part of the line of a name, or None."""
    try:
        text, behind = read_quoted(line, len(NAMED))
    except BadTerm:
        return None
    return ("name", (text,)) if behind == len(line) else None
