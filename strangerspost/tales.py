"""Scripts played, and what is told of each line."""

from strangerspost.books import LEAVES
from strangerspost.errors import (
    BadWish, Named, NoLetter, NoName, NoRoom, NoTerm, NoWords, TreeFull, Unknown,
)
from strangerspost.images import restored, world_image
from strangerspost.scripts import read_script
from strangerspost.terms import told_part
from strangerspost.texts import in_quotes
from strangerspost.world import World


def tale(text):
    """The list of what is told of each line of a script."""
    return Play(read_script(text)).told


def played(text):
    """The world behind a script."""
    return Play(read_script(text)).world


class Play:
    """The world of the rows of a script, all of them done, and what is told of each."""

    def __init__(self, rows):
        window, keep, names = rows[0][1:]
        self.world = World(names, window, keep)
        # The terms that the stranger made up by lines of the script.
        self.mine = []
        self.told = ["ok"]
        for row in rows[1:]:
            self.told.append(self.tried(row[0], row[1:]))

    def tried(self, word, parts):
        """What is told of a line, or of the error that it raises."""
        try:
            return self.done(word, parts)
        except NoName:
            return "(NoName)"
        except NoRoom:
            return "(NoRoom)"
        except Named:
            return "(Named)"
        except BadWish:
            return "(BadWish)"
        except TreeFull:
            return "(TreeFull)"
        except NoWords:
            return "(NoWords)"
        except NoLetter:
            return "(NoLetter)"
        except NoTerm:
            return "(NoTerm)"
        except Unknown:
            return "(Unknown)"

    def done(self, word, parts):
        """What is told of a line that raises no error."""
        if word in ("card", "cardas", "found", "change", "changeas", "write", "writeas"):
            return told_numbers(self.handed_in(word, parts))
        if word == "hand":
            return told_outcome(self.world, self.world.hand(*parts))
        if word == "send":
            return self.sent(*parts)
        if word == "steal":
            return str(len(self.world.steal(*parts)))
        if word == "know":
            return self.known(*parts)
        if word == "view":
            return self.viewed(*parts)
        if word == "leave":
            self.world.leave(*parts)
        elif word == "fresh":
            self.mine.append(self.world.fresh())
        else:
            self.world = restored(world_image(self.world))
        return "ok"

    def handed_in(self, word, parts):
        """The numbers in the post of what a deed hands in."""
        world = self.world
        if word == "change":
            return world.change(*parts)
        if word == "changeas":
            return world.change_as(*parts)
        if word == "write":
            return world.write(*parts)[:1]
        if word == "writeas":
            return world.write_as(*parts)[:1]
        if word == "found":
            return (world.found(*parts),)
        return (world.card(*parts) if word == "card" else world.card_as(*parts),)

    def sent(self, name, expr):
        """What is told of a term that is handed to a member."""
        self.world.holder(name)
        # Where it is refused nothing of the term is left in the world.
        trial = self.world.copy()
        told = trial.hand_term(put_expr(trial, self.mine, expr), name)
        self.world = trial
        return told_outcome(trial, told)

    def known(self, expr):
        """What is told of whether the stranger knows a term."""
        trial = self.world.copy()
        return "yes" if trial.knows(put_expr(trial, self.mine, expr)) else "no"

    def viewed(self, name, room):
        """What is told of a member's view of a room."""
        number, _, tree, _, leaf = self.world.view(name, room)
        names = [member[0] for member in tree.leaves if member is not None]
        return " ".join([str(number), str(leaf)] + names)


def told_numbers(numbers):
    """Numbers with blanks between."""
    return " ".join([str(number) for number in numbers])


def told_outcome(world, outcome):
    """What is told of what comes of a term that is handed to a member."""
    word = outcome[0]
    if word != "words":
        return " ".join([str(part) for part in outcome])
    _, room, leaf, words = outcome
    text = told_part(world.book, "name", words)
    return f"{word} {room} {leaf}" if text is None else f"{word} {room} {leaf} {in_quotes(text)}"


def put_expr(world, mine, expr):
    """The number of the term that an EXPR tells, put into the world's book unless it stands there."""
    word, parts = expr
    if word in ("name", "number"):
        return world.put(word, parts)
    if word == "post":
        return told_at(world.posted, parts[0])
    if word == "mine":
        return told_at(mine, parts[0])
    if word == "part":
        term = put_expr(world, mine, parts[0])
        return told_at(() if world.book.kind(term) in LEAVES else world.book.parts(term), parts[1])
    # An EXPR is not deep.
    return world.put(word, tuple([put_expr(world, mine, part) for part in parts]))


def told_at(terms, at):
    """The term at a place; NoTerm if there is none."""
    if at >= len(terms):
        raise NoTerm()
    return terms[at]
