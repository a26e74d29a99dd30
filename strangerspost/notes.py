"""The ledger of a world as lines of its image, and read back.

Each note is a line `note WORD N ..`. Of each name that was given: its word, the number of its term, its own numbers.
Then, behind these words:
- cards: how many cards were handed in, unless there are none;
- led, for each change: its letter;
- came, for each epoch: its epoch key, its chain, its seal, and then all terms that tell that the epoch is reached;
- said, for each message: its own number, and its words unless it says a text;
- theft, for each theft: the terms of the store;
- got: those terms of stolen stores that the stranger has got besides, unless there are none.
"""

from strangerspost.ledger import Ledger
from strangerspost.words import ascends

# How many numbers a name with each word has.
NAME_NUMBERS = {
    "mark": 1, "leaf": 1, "entry": 1, "path": 2, "node": 2, "root": 1, "join": 1, "epoch": 1, "chain": 1, "letters": 1,
    "seal": 1, "first": 1, "turn": 3, "key": 3, "words": 1, "other": 1,
}

# The places of all other words behind the names.
PLACES = {"cards": 1, "led": 2, "came": 3, "said": 4, "theft": 5, "got": 6}


def note_lines(world):
    """The list of the lines of the notes."""
    ledger = world.ledger
    rows = [(name[0], (ledger.terms[name],) + name[1:]) for name in ledger.terms]
    if ledger.card_count > 0:
        rows.append(("cards", (ledger.card_count,)))
    rows.extend([("led", (letter,)) for letter in ledger.changes])
    for key, number in ledger.epochs.items():
        rows.append(("came", (key,) + ledger.sealed[number] + tuple(ledger.turnings[number])))
    rows.extend([("said", (at,) if words is None else (at, words)) for at, words in enumerate(ledger.messages)])
    rows.extend([("theft", store) for store in ledger.thefts])
    stolen = {term: True for store in ledger.thefts for term in store}
    got = [term for term in sorted(world.openly.bag()) if term in stolen]
    if got:
        rows.append(("got", got))
    return [" ".join(["note", word] + [str(number) for number in numbers]) for word, numbers in rows]


def read_notes(lines, size):
    """The ledger that the next lines tell, of a book of so many terms, and the list of stolen terms got besides."""
    ledger, got = Ledger(), []
    last = 0
    while lines.head() == "note":
        words = lines.row().split(" ")[1:]
        word = words[0] if words else ""
        place = 0 if word in NAME_NUMBERS else PLACES.get(word, -1)
        lines.check(last <= place)
        last = place
        numbers = lines.numbers(words[1:], bounds_of(word, len(words) - 1, size))
        if place == 0:
            lines.check(names_term(ledger, word, numbers))
        elif place == PLACES["got"]:
            lines.check(is_got(ledger, got, numbers))
            got.extend(numbers)
        else:
            lines.check(noted(ledger, word, numbers))
        lines.step()
    return ledger, got


def bounds_of(word, count, size):
    """The bounds of so many numbers of a note; all but those of names and counts are terms."""
    if word in NAME_NUMBERS:
        return (size,) + (None,) * (count - 1)
    return ((size,) if word not in ("cards", "said") else (None,)) + (size,) * (count - 1)


def names_term(ledger, word, numbers):
    """Gives a term a name, if this is right: whether it is."""
    if len(numbers) != NAME_NUMBERS[word] + 1:
        return False
    term, name = numbers[0], (word,) + numbers[1:]
    if term in ledger.names or name in ledger.terms:
        return False
    if word == "other":
        if name[1] != ledger.other_count:
            return False
        ledger.other_count += 1
    ledger.give(name, term)
    return True


def noted(ledger, word, numbers):
    """Notes what is no name and no stolen term got besides, if this is right: whether it is."""
    if word == "cards":
        right = len(numbers) == 1 and numbers[0] > 0 and ledger.card_count == 0
        ledger.card_count = numbers[0] if right else 0
    elif word == "led":
        right = len(numbers) == 1 and numbers[0] not in ledger.changes
        if right:
            ledger.changes[numbers[0]] = len(ledger.changes)
    elif word == "came":
        right = is_epoch(ledger, numbers)
        if right:
            ledger.epochs[numbers[0]] = len(ledger.epochs)
            ledger.sealed.append(numbers[1:3])
            ledger.turnings.append({term: True for term in numbers[3:]})
    elif word == "said":
        right = len(numbers) in (1, 2) and numbers[0] == len(ledger.messages)
        ledger.messages.append(numbers[1] if len(numbers) == 2 else None)
    else:
        right = len(numbers) > 0 and ascends(numbers)
        ledger.thefts.append(numbers)
    return right


def is_epoch(ledger, numbers):
    """Whether numbers tell an epoch that is not noted yet, none of its terms twice."""
    if len(numbers) < 3 or numbers[0] in ledger.epochs:
        return False
    return len({term: True for term in numbers[3:]}) == len(numbers) - 3


def is_got(ledger, got, numbers):
    """Whether numbers tell terms of stores that were stolen, none having been told yet."""
    stolen = {term: True for store in ledger.thefts for term in store}
    return not got and len(numbers) > 0 and ascends(numbers) and all([term in stolen for term in numbers])
