"""Scripts: worlds, and what is done there, as lines."""

from strangerspost.books import NUMBER_BOUND, is_below, is_name_text
from strangerspost.errors import BadLine, BadRows, BadTerm
from strangerspost.exprs import expr_text, is_expr, read_expr
from strangerspost.lines import plain_number
from strangerspost.texts import in_quotes, read_quoted
from strangerspost.trees import is_pair
from strangerspost.words import is_word

# What stands behind the first word of each line; what is no word and no number stands last, and reaches to the end.
SHAPES = {
    "world": ("number", "number", "names"),
    "card": ("word",),
    "cardas": ("word",),
    "found": ("word", "word"),
    "change": ("word", "word", "wishes"),
    "changeas": ("word", "word", "wishes"),
    "write": ("word", "word", "words"),
    "writeas": ("word", "word", "words"),
    "hand": ("number", "word"),
    "send": ("word", "expr"),
    "steal": ("word",),
    "leave": ("word", "word"),
    "fresh": (),
    "know": ("expr",),
    "view": ("word", "word"),
    "image": (),
}

WISHES = ("add", "remove")


def read_script(text):
    """The list of the rows of the lines of a script."""
    if not isinstance(text, str):
        raise BadLine(0)
    lines = text.split("\n")
    # What stands behind the last line feed is no line.
    left = lines.pop()
    rows = []
    for at, line in enumerate(lines):
        row = read_row(line)
        if row is None or (row[0] == "world") != (at == 0):
            raise BadLine(at + 1)
        rows.append(row)
    if left != "" or not rows:
        raise BadLine(len(lines) + 1)
    return rows


def script_text(rows):
    """The script of a list of rows."""
    if not isinstance(rows, list) or not rows:
        raise BadRows(-1)
    for at, row in enumerate(rows):
        if not is_row(row) or (row[0] == "world") != (at == 0):
            raise BadRows(at)
    return "".join([row_line(row) + "\n" for row in rows])


def read_row(line):
    """The row of a line, or None if it is not written as one."""
    word = line.partition(" ")[0]
    if word not in SHAPES:
        return None
    shape = SHAPES[word]
    plain = [kind for kind in shape if kind in ("word", "number")]
    pieces = line.split(" ", len(plain) + 1)[1:]
    if len(pieces) < len(plain):
        return None
    row = [word]
    for kind, piece in zip(plain, pieces):
        told = plain_number(piece) if kind == "number" else piece
        if not is_part(kind, told):
            return None
        row.append(told)
    rest = pieces[-1] if len(pieces) > len(plain) else None
    if len(plain) == len(shape):
        return tuple(row) if rest is None else None
    last = read_last(shape[-1], rest)
    return None if last is None else tuple(row) + last


def read_last(kind, rest):
    """The tuple of the one part that the rest of a line tells, or None; the rest is None where nothing stands."""
    if kind == "names":
        names = () if rest is None else tuple(rest.split(" "))
        return (names,) if all([is_word(name) for name in names]) else None
    if kind == "wishes":
        return read_wishes([] if rest is None else rest.split(" "))
    if kind == "words":
        return (None,) if rest is None else read_words(rest)
    expr = None if rest is None else read_expr(rest)
    return None if expr is None else (expr,)


def read_wishes(words):
    """The tuple of the one tuple of wishes that words tell, or None."""
    if len(words) % 2 == 1:
        return None
    wishes = []
    for word, told in zip(words[::2], words[1::2]):
        number = plain_number(told)
        if word not in WISHES or number is None:
            return None
        wishes.append((word, number))
    return (tuple(wishes),)


def read_words(rest):
    """The tuple of the one text that stands between quotes, or None."""
    if rest[:1] != '"':
        return None
    try:
        text, behind = read_quoted(rest, 1)
    except BadTerm:
        return None
    return (text,) if behind == len(rest) else None


def is_row(thing):
    """Whether a thing is a row."""
    if not isinstance(thing, tuple) or not thing or not isinstance(thing[0], str) or thing[0] not in SHAPES:
        return False
    shape = SHAPES[thing[0]]
    if len(thing) != len(shape) + 1:
        return False
    return all([is_part(kind, part) for kind, part in zip(shape, thing[1:])])


def is_part(kind, thing):
    """Whether a thing is what stands at a place of a row."""
    if kind == "word":
        return is_word(thing)
    if kind == "number":
        return is_below(NUMBER_BOUND, thing)
    if kind == "names":
        return isinstance(thing, tuple) and all([is_word(name) for name in thing])
    if kind == "wishes":
        return isinstance(thing, tuple) and all([is_wish(wish) for wish in thing])
    if kind == "words":
        return thing is None or is_name_text(thing)
    return is_expr(thing)


def is_wish(thing):
    """Whether a thing is a wish, of a number of any size."""
    return is_pair(thing) and thing[0] in WISHES and is_below(NUMBER_BOUND, thing[1])


def row_line(row):
    """The line of a row."""
    words = [row[0]]
    for kind, part in zip(SHAPES[row[0]], row[1:]):
        words.extend(part_words(kind, part))
    return " ".join(words)


def part_words(kind, part):
    """The list of the words that tell a part of a row."""
    if kind == "names":
        return list(part)
    if kind == "wishes":
        return [f"{word} {number}" for word, number in part]
    if kind == "words":
        return [] if part is None else [in_quotes(part)]
    return [expr_text(part) if kind == "expr" else str(part)]
