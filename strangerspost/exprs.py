"""Terms told without numbers of a book."""

from strangerspost.books import COUNTS, NUMBER_BOUND, is_below, is_name_text
from strangerspost.errors import BadTerm
from strangerspost.texts import in_quotes, read_number, read_quoted
from strangerspost.trees import is_pair

MOST_DEPTH = 12
MOST_WORDS = 60

# The words that take numbers alone; the parts of a name and of a number stand behind a blank, not in parentheses.
NUMBERED = ("number", "post", "mine")

NAMED = 'name "'
COUNTED = "number "

# All words whose parts stand in parentheses.
WORDS = ("row", "made", "lock", "box", "chest", "mark", "print", "post", "mine", "part")


def is_expr(thing):
    """Whether a thing is an EXPR."""
    waiting = [(thing, 1)]
    count = 0
    while waiting:
        one, depth = waiting.pop()
        count += 1
        inside = within_expr(one)
        if inside is None or depth > MOST_DEPTH or count > MOST_WORDS:
            return False
        waiting.extend([(other, depth + 1) for other in inside])
    return True


def within_expr(thing):
    """The tuple of all that must be EXPRs for a thing to be one, or None if it is none anyway."""
    if not is_pair(thing) or not isinstance(thing[0], str) or not isinstance(thing[1], tuple):
        return None
    word, parts = thing
    if word == "row":
        return parts
    if word == "name":
        return () if len(parts) == 1 and is_name_text(parts[0]) else None
    if word in NUMBERED:
        return () if len(parts) == 1 and is_below(NUMBER_BOUND, parts[0]) else None
    if word == "part":
        return parts[:1] if len(parts) == 2 and is_below(NUMBER_BOUND, parts[1]) else None
    return parts if len(parts) == COUNTS.get(word) else None


def expr_text(expr):
    """The text of an EXPR."""
    word, parts = expr
    if word == "name":
        return f"{word} {in_quotes(parts[0])}"
    if word == "number":
        return f"{word} {parts[0]}"
    # An EXPR is not deep.
    told = [str(part) if isinstance(part, int) else expr_text(part) for part in parts]
    return word + "(" + ", ".join(told) + ")"


def read_expr(text):
    """The EXPR that a text tells, or None."""
    try:
        expr, behind = expr_at(text, 0, MOST_DEPTH)
    except BadTerm:
        return None
    return expr if behind == len(text) and is_expr(expr) else None


def expr_at(text, at, most):
    """What is told as an EXPR, of at most this depth, from a place on, and the place behind it."""
    if most == 0:
        raise BadTerm(at)
    if text[at:at + len(NAMED)] == NAMED:
        told, at = read_quoted(text, at + len(NAMED))
        return ("name", (told,)), at
    if text[at:at + len(COUNTED)] == COUNTED:
        told, at = read_number(text, at + len(COUNTED), NUMBER_BOUND)
        return ("number", (told,)), at
    word = word_at(text, at)
    if word is None:
        raise BadTerm(at)
    parts, at = parts_at(text, at + len(word) + 1, word, most)
    return (word, tuple(parts)), at


def word_at(text, at):
    """The word with parts in parentheses that stands at a place, or None."""
    for word in WORDS:
        if text[at:at + len(word) + 1] == word + "(":
            return word
    return None


def parts_at(text, at, word, most):
    """The list of the parts of a word up to the closing parenthesis, and the place behind it."""
    parts = []
    if word == "row" and text[at:at + 1] == ")":
        return parts, at + 1
    while True:
        if word in NUMBERED or (word == "part" and len(parts) == 1):
            part, at = read_number(text, at, NUMBER_BOUND)
        else:
            part, at = expr_at(text, at, most - 1)
        parts.append(part)
        if text[at:at + 1] == ")":
            return parts, at + 1
        if text[at:at + 2] != ", ":
            raise BadTerm(at)
        at += 2
