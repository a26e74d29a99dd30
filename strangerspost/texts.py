"""Terms written out as texts, and read back."""

from strangerspost.books import COUNTS, LEAVES, MOST_ITEMS, MOST_SIGNS, NUMBER_BOUND, is_sign
from strangerspost.errors import BadTerm, TooLong

MOST_TEXT = 20000

# What the text of a term of each kind begins with; none of these begins another one.
HEADS = (
    ("name", 'name "'),
    ("number", "number "),
    ("fresh", "fresh "),
    ("row", "row("),
    ("made", "made("),
    ("lock", "lock("),
    ("box", "box("),
    ("chest", "chest("),
    ("mark", "mark("),
    ("print", "print("),
)


def term_text(book, term):
    """The text of a term."""
    if text_size(book, term) > MOST_TEXT:
        raise TooLong(MOST_TEXT)
    signs = []
    waiting = [term]
    while waiting:
        piece = waiting.pop()
        if isinstance(piece, str):
            signs.append(piece)
        else:
            waiting.extend(pieces(book, piece)[::-1])
    return "".join(signs)


def text_size(book, term):
    """How many signs the text of a term has; one more than the most stands for all above."""
    # What is no term is told ahead of within(), which would call it no terms.
    book.kind(term)
    sizes = {}
    for part in book.within((term,)):
        size = sum([len(piece) if isinstance(piece, str) else sizes[piece] for piece in pieces(book, part)])
        # Few terms may have a text too long to be worth counting.
        sizes[part] = min(size, MOST_TEXT + 1)
    return sizes[term]


def pieces(book, term):
    """What the text of a term is made of: strings, and terms for the texts of its parts."""
    kind, parts = book.kind(term), book.parts(term)
    if kind == "name":
        return [quoted(parts[0])]
    if kind in LEAVES:
        return [f"{kind} {parts[0]}"]
    found = [kind + "("]
    for at, part in enumerate(parts):
        if at > 0:
            found.append(", ")
        found.append(part)
    found.append(")")
    return found


def quoted(text):
    """The text of the name of a text."""
    return "name " + in_quotes(text)


def in_quotes(text):
    """A text between quotes, with a backslash ahead of each backslash and quote in it."""
    signs = text.replace("\\", "\\\\").replace('"', '\\"')
    return f'"{signs}"'


def read_term(book, text):
    """The number of the term that a text tells, put into the book unless it stands there."""
    if not isinstance(text, str):
        raise BadTerm(-1)
    # All is read ahead of the first put, as a wrong text puts in nothing.
    rows = told_terms(book, text)
    terms = []
    for kind, told in rows:
        if kind == "fresh":
            terms.append(book.number_of(kind, (told,)))
        elif kind in LEAVES:
            terms.append(book.put(kind, (told,)))
        else:
            start = len(terms) - told
            parts = tuple(terms[start:])
            del terms[start:]
            terms.append(book.put(kind, parts))
    return terms[0]


def told_terms(book, text):
    """Pairs of kind and part, or of kind and how many parts, for the terms of a text, each behind its parts."""
    whole = []
    begun = []
    at = 0
    while not whole or begun:
        kind, at = read_head(book, text, at)
        if kind in LEAVES:
            part, at = read_leaf(book, text, at, kind)
            whole.append((kind, part))
        elif kind == "row" and text[at:at + 1] == ")":
            whole.append((kind, 0))
            at += 1
        else:
            begun.append([kind, 0])
            continue
        more = False
        while begun and not more:
            begun[-1][1] += 1
            kind, count = begun[-1]
            more, at = read_behind(text, at, kind, count)
            if not more:
                whole.append((kind, count))
                begun.pop()
    if at < len(text):
        raise BadTerm(at)
    return whole


def read_head(book, text, at):
    """The kind of the term that begins at a place, and the place behind its head."""
    most = 0
    for kind, head in HEADS:
        # Without a fresh term no text begins so, not even with the first sign of it.
        if kind == "fresh" and book.fresh_count() == 0:
            continue
        count = agreeing(text, at, head)
        if count == len(head):
            return kind, at + count
        most = max(most, count)
    raise BadTerm(at + most)


def read_leaf(book, text, at, kind):
    """What a name, a number or a fresh term is of, and the place behind it."""
    if kind == "name":
        return read_quoted(text, at)
    return read_number(text, at, NUMBER_BOUND if kind == "number" else book.fresh_count())


def read_quoted(text, at):
    """The text of a name, read up to its closing quote, and the place behind that."""
    signs = []
    while text[at:at + 1] != '"':
        if len(signs) == MOST_SIGNS or not is_sign(text[at:at + 1]):
            raise BadTerm(at)
        if text[at] == "\\":
            at += 1
            if text[at:at + 1] not in ("\\", '"'):
                raise BadTerm(at)
        signs.append(text[at])
        at += 1
    return "".join(signs), at + 1


def read_number(text, at, bound):
    """A number below a bound, written without needless zeros, and the place behind it."""
    start = at
    number = 0
    while "0" <= text[at:at + 1] <= "9":
        longer = 10 * number + int(text[at])
        if longer >= bound or (number == 0 and at > start):
            raise BadTerm(at)
        number = longer
        at += 1
    if at == start:
        raise BadTerm(at)
    return number, at


def read_behind(text, at, kind, count):
    """Whether more parts follow the count of them that a term has, and the place behind what tells so."""
    if kind == "row":
        more = count < MOST_ITEMS and text[at:at + 1] == ","
    else:
        more = count < COUNTS[kind]
    sign = ", " if more else ")"
    agreed = agreeing(text, at, sign)
    if agreed < len(sign):
        raise BadTerm(at + agreed)
    return more, at + agreed


def agreeing(text, at, word):
    """How many signs of a word, from its first on, stand in a text from a place on."""
    count = 0
    while count < len(word) and text[at + count:at + count + 1] == word[count]:
        count += 1
    return count
