"""What is stolen of a member, as a text."""

from strangerspost.books import Book, carried
from strangerspost.booktexts import read_terms, term_lines
from strangerspost.errors import BadImage
from strangerspost.lines import Lines
from strangerspost.memberlines import member_rows, read_member, row_line


def member_image(world, member):
    """The lines of what a member holds, and of the terms that these name alone."""
    rows = member_rows(world.holder(member))
    book = Book()
    numbers = carried(world.book, book, named_terms(rows))
    lines = ["term " + line for line in term_lines(book)] + [row_line(row, numbers) for row in rows]
    return "".join([line + "\n" for line in lines])


def named_terms(rows):
    """The list of the terms that lines of a member name."""
    return [term for words, terms in rows for term in terms if term is not None]


def thief(text):
    """The book of the image of a member, and the ascending tuple of the terms of its store."""
    lines = Lines(text)
    book = read_terms(lines)
    member = read_member(lines, book.size(), None)
    lines.close()
    needed = {term: True for term in book.within(named_terms(member_rows(member)))}
    needless = [term for term in range(book.size()) if term not in needed]
    if needless:
        # The lines of terms are the first ones.
        raise BadImage(needless[0] + 1)
    return book, member.store()
