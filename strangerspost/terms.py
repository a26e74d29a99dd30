"""Small terms that others are made of, put in and read."""


def name_term(book, text):
    """The name of a text."""
    return book.put("name", (text,))


def number_term(book, number):
    """The term of a number."""
    return book.put("number", (number,))


def row_term(book, items):
    """The row of a list or tuple of terms."""
    return book.put("row", tuple(items))


def made_term(book, word, key):
    """What is made of a key, with a name as its label."""
    return book.put("made", (name_term(book, word), key))


def lock_term(book, key):
    """The lock of a key."""
    return book.put("lock", (key,))


def print_term(book, content):
    """The print of a content."""
    return book.put("print", (content,))


def mark_term(book, key, content):
    """A content marked with a key."""
    return book.put("mark", (key, content))


def box_term(book, lock, content):
    """A content boxed with a lock."""
    return book.put("box", (lock, content))


def chest_term(book, key, content):
    """A content in a chest with a key."""
    return book.put("chest", (key, content))


def told_part(book, kind, term):
    """The text of a name, or the number of a number; None for a term of another kind."""
    return book.parts(term)[0] if book.kind(term) == kind else None


def told_row(book, term, count):
    """The items of a row of so many, or of any row where the count is None; None for other terms."""
    right = book.kind(term) == "row" and (count is None or len(book.parts(term)) == count)
    return book.parts(term) if right else None


def told_named(book, term, word, count):
    """What stands behind a name in a row of so many that begins with it; None for other terms."""
    items = told_row(book, term, count)
    if items is None or told_part(book, "name", items[0]) != word:
        return None
    return items[1:]


def locked_by(book, lock):
    """The key of a lock, or None for what is no lock."""
    return told_part(book, "lock", lock)
