import inspect
import random
import unittest

from strangerspost import tales
from strangerspost.errors import BadLine, BadWorld, NoTerm, PostError
from strangerspost.exprs import is_expr
from strangerspost.images import world_image
from strangerspost.scripts import read_script, script_text
from strangerspost.shapes import told_card
from strangerspost.tales import played, tale
from strangerspost.world import World
from strangerspost.worldrules import hangs, known, names, seen_words
from tests.test_booktexts import NO_TEXTS
from tests.test_exprs import drawn
from tests.worlds import room_of


def script(*pairs):
    """A script of lines, and what is told of them."""
    return "".join([line + "\n" for line, told in pairs]), [told for line, told in pairs]


class TaleCase(unittest.TestCase):

    def told(self, *pairs):
        """Of each line just this is told, with images at all places too."""
        text, told = script(*pairs)
        self.assertEqual(tale(text), told)
        between = [pair for line in pairs for pair in (line, ("image", "ok"))]
        text, told = script(*between)
        self.assertEqual(tale(text), told)

    def bad(self, error, value, text):
        for call in (tale, played):
            with self.assertRaises(PostError) as caught:
                call(text)
            self.assertIs(caught.exception.__class__, error, text)
            self.assertEqual(list(vars(caught.exception).values()), [value], text)


# A room of a and b, at epoch 1.
ROOM = (
    ("world 2 1 a b c", "ok"), ("card b", "0"), ("found a r", "1"), ("change a r add 0", "2 3"), ("hand 2 a", "changed r 1"),
    ("hand 3 b", "entered r 1"),
)


class InterfaceTest(unittest.TestCase):

    def test_names(self):
        for name in ("tale", "played"):
            self.assertEqual(list(inspect.signature(getattr(tales, name)).parameters), ["text"])
            self.assertEqual(getattr(tales, name).__module__, "strangerspost.tales")


class ErrorsTest(TaleCase):

    def test_bad_lines(self):
        for thing in NO_TEXTS:
            self.bad(BadLine, 0, thing)
        self.bad(BadLine, 1, "")
        self.bad(BadLine, 1, "world 1 1 a")
        self.bad(BadLine, 2, "world 1 1 a\nlook\n")
        self.bad(BadLine, 1, "fresh\n")
        self.bad(BadLine, 3, "world 1 1 a\nfresh\nworld 1 1 a\n")

    def test_bad_worlds(self):
        self.bad(BadWorld, "names", "world 1 1 a b a\n")
        self.bad(BadWorld, "names", "world 1 1 " + " ".join("abcdefghijklm") + "\n")
        self.bad(BadWorld, "names", "world 1 1\n")
        self.bad(BadWorld, "window", "world 51 1 a\nfresh\n")
        self.bad(BadWorld, "keep", "world 50 51 a\n")
        self.bad(BadWorld, "names", "world 51 51 a a\n")
        self.bad(BadWorld, "window", "world 999999999999 999999999999 a\n")
        # A wrong line behind it is told ahead.
        self.bad(BadLine, 2, "world 51 1 a\nlook\n")
        self.bad(BadLine, 3, "world 51 1 a\nfresh\nfresh")
        self.assertEqual(tale("world 50 50 " + " ".join("abcdefghijkl") + "\n"), ["ok"])


class DeedsTest(TaleCase):

    def test_a_room(self):
        self.told(
            *ROOM, ("hand 2 b", "refused unlike"), ("view a r", "1 0 a b"), ("view b r", "1 1 a b"), ("write a r", "4"),
            ('write b r "hi you"', "5"), ("hand 4 b", "words r 0"), ("hand 5 a", 'words r 1 "hi you"'), ("hand 5 a", "refused gone"),
            ("card c", "6"), ("change b r add 6 remove 0", "7 8"), ("hand 7 a", "out r"), ("hand 8 c", "entered r 2"),
            ("hand 7 b", "changed r 2"), ("view c r", "2 0 c b"), ("view a r", "(NoRoom)"), ("leave b r", "ok"), ("view b r", "(NoRoom)"),
            ("found b abcdefghijkl", "9"), ("view b abcdefghijkl", "0 0 b"), ("fresh", "ok"), ("image", "ok"),
        )

    def test_each_reason(self):
        # Of what members hold keys of, each refusal that a script can bring about.
        self.told(
            *ROOM, ("change a r", "4"), ("change b r", "5"), ("hand 4 a", "changed r 2"), ("hand 5 a", "refused fork"),
            ("hand 4 a", "refused old"), ("hand 5 b", "changed r 2"), ("hand 4 b", "refused fork"), ("hand 1 b", "refused unlike"),
            ("write a r", "6"), ("hand 6 b", "refused unlike"), ("write a r", "7"), ("write a r", "8"), ("write a r", "9"),
            ("hand 0 c", "refused unlike"),
        )
        self.told(
            *ROOM, ("write a r", "4"), ("write a r", "5"), ("write a r", "6"), ("write a r", "7"), ("hand 7 b", "refused far"),
            ("hand 6 b", "words r 0"), ("hand 6 b", "refused gone"), ("hand 4 b", "words r 0"), ("hand 7 b", "words r 0"),
            ("card b", "8"), ("card b", "9"), ("found c r", "10"), ("change c r add 9", "11 12"), ("hand 12 b", "refused room"),
        )
        self.told(
            *ROOM, ("steal b", "9"), ("changeas b r", "4"), ("hand 4 a", "changed r 2"), ("hand 4 b", "refused box"),
            ('writeas b r "lie"', "5"), ("hand 5 a", 'words r 1 "lie"'), ("cardas b", "6"), ("cardas a", "(Unknown)"),
            ("changeas a r", "(Unknown)"), ("writeas a r", "(Unknown)"), ("writeas b r", "7"),
            ("hand 7 a", "refused gone"),
        )

    def test_made_up_terms_that_are_refused(self):
        # Letters with one part put in the place of another.
        marked, seal, label = "part(post(4), 0)", "part(post(4), 1)", "part(post(4), 2)"
        self.told(
            *ROOM, ("change a r", "4"),
            (f"send b row(mark(name \"x\", part({marked}, 1)), {seal}, {label})", "refused mark"),
            (f"send b row({marked}, print(name \"x\"), {label})", "refused seal"),
            (f"send b row({marked}, {seal}, print(name \"x\"))", "refused label"),
            (f"send b row({marked}, {seal}, name \"x\")", "refused unlike"),
            (f"send b row({marked}, {seal}, {label})", "changed r 2"), ("hand 4 b", "refused old"),
        )
        letter = [f"part(post(4), {at})" for at in range(5)]
        self.told(
            *ROOM, ("write a r", "4"),
            (f"send b row({letter[0]}, {letter[1]}, {letter[2]}, {letter[3]}, chest(name \"x\", number 0))", "refused chest"),
            (f"send b row({letter[0]}, {letter[1]}, {letter[2]}, number 1, {letter[4]})", "refused chest"),
            (f"send b row({letter[0]}, {letter[1]}, number 1, {letter[3]}, {letter[4]})", "refused chest"),
            (f"send b row({letter[0]}, {letter[1]}, number 7, {letter[3]}, {letter[4]})", "refused unlike"),
            ("send b post(4)", "words r 0"),
        )

    def test_words(self):
        for text, told in (
            ("", '""'), (" ", '" "'), ('a "b"', '"a \\"b\\""'), ("\\", '"\\\\"'), ("x" * 40, '"' + "x" * 40 + '"'), ("words r 0", '"words r 0"'),
        ):
            line = script_text([("world", 0, 0, ("a",)), ("write", "a", "r", text)]).split("\n")[1]
            self.assertEqual(line, f"write a r {told}")
            self.told(*ROOM, (line, "4"), ("hand 4 b", f"words r 0 {told}"))

    def test_words_that_are_another_term(self):
        # The stranger, who has stolen all, says a number, and a fresh term of its own.
        for inside, told in (("number 7", ""), ("mine(0)", ""), ("row()", ""), ('name "x"', ' "x"'), ('lock(name "x")', "")):
            # The key of letter 0 is stolen with the turn, and the marks' key too, but no script tells their numbers: so
            # what a says is taken out of an elder letter.
            world = room_of("ab")
            world.steal("a")
            turn = world.held["b"].joined["r"].own().turns[0][1]
            key = world.put("made", (world.put("name", ("key",)), turn))
            self.assertTrue(world.knows(key))
            self.assertEqual(tales.told_outcome(world, ("words", "r", 0, self.put(world, inside))), f"words r 0{told}")

    def put(self, world, text):
        text = text.replace("mine(0)", "post(0)")
        return tales.put_expr(world, [], read_script(f"world 0 0 a\nknow {text}\n")[1][1])

    def test_steal(self):
        self.told(("world 0 0 a", "ok"), ("steal a", "1"), ("card a", "0"), ("steal a", "3"), ("steal b", "(NoName)"))
        self.told(*ROOM, ("steal c", "1"), ("steal a", "12"), ("steal b", "9"))

    def test_errors(self):
        self.told(
            *ROOM, ("card d", "(NoName)"), ("cardas d", "(NoName)"), ("cardas a", "(Unknown)"), ("found d r", "(NoName)"),
            ("found a r", "(Named)"), ("change d r", "(NoName)"), ("change c r", "(NoRoom)"), ("change a s", "(NoRoom)"),
            ("change a r add 0", "(BadWish)"), ("change a r add 1", "(BadWish)"), ("change a r add 99", "(BadWish)"),
            ("change a r remove 0", "(BadWish)"), ("change a r remove 7", "(BadWish)"), ("change a r remove 1 remove 1", "(BadWish)"),
            ("changeas d r", "(NoName)"), ("changeas c r", "(NoRoom)"), ("changeas a r add 0", "(BadWish)"), ("changeas a r", "(Unknown)"),
            ("write d r", "(NoName)"), ("write c r", "(NoRoom)"), ("writeas d r", "(NoName)"), ('writeas c r "x"', "(NoRoom)"),
            ("writeas a r", "(Unknown)"), ("hand 4 a", "(NoLetter)"), ("hand 0 d", "(NoName)"), ("hand 99 d", "(NoName)"),
            ("hand 999999999999 a", "(NoLetter)"), ("send a post(4)", "(NoTerm)"), ("send a mine(0)", "(NoTerm)"),
            ("send d post(0)", "(NoName)"), ("send d post(99)", "(NoName)"), ("steal d", "(NoName)"), ("leave d r", "(NoName)"),
            ("leave c r", "(NoRoom)"), ("view d r", "(NoName)"), ("view c r", "(NoRoom)"), ("know post(4)", "(NoTerm)"),
            ("know mine(0)", "(NoTerm)"), ("card a", "4"),
        )

    def test_errors_change_nothing(self):
        text = script(*ROOM)[0] + "steal b\n"
        before = world_image(played(text))
        lines = (
            "card d", "cardas a", "found a r", "change c r", "change a r add 0", "changeas a r", "write c r", 'writeas a r "new words"',
            "hand 99 a", 'send d name "new"', 'send a part(name "new", 0)', "send a lock(post(99))", 'send a row(name "new", mine(0))',
            'send a lock(part(post(0), 0))', "leave c r", "view c r", 'know lock(name "new")', "know mine(0)", "know post(2)", "view a r",
        )
        for line in lines:
            self.assertEqual(world_image(played(text + line + "\n")), before, line)
        self.assertEqual(world_image(played(text + "".join([line + "\n" for line in lines]))), before)
        self.assertEqual(world_image(played(text + "image\n")), before)


class ExprsTest(TaleCase):

    def test_what_is_known(self):
        self.told(
            *ROOM, ('know name "x"', "yes"), ("know number 999999999999", "yes"), ("know row()", "yes"), ("know post(3)", "yes"),
            ("know part(post(3), 0)", "yes"), ("know part(post(3), 1)", "no"), ("know lock(part(part(post(3), 0), 0))", "yes"),
            ("know part(part(post(3), 0), 0)", "no"), ("steal b", "9"), ("know part(post(3), 1)", "no"), ("fresh", "ok"),
            ("know mine(0)", "yes"), ("know mark(mine(0), row(mine(0), post(0)))", "yes"), ("know mine(1)", "(NoTerm)"), ("fresh", "ok"),
            ("know mine(1)", "yes"), ("write a r", "4"), ("know part(part(post(4), 4), 1)", "yes"), ("know part(part(post(4), 4), 0)", "yes"),
        )

    def test_parts(self):
        self.told(
            *ROOM, ("know part(post(0), 0)", "no"), ("know part(post(0), 1)", "yes"), ("know part(post(0), 2)", "(NoTerm)"),
            ("know part(post(0), 999999999999)", "(NoTerm)"), ('know part(name "x", 0)', "(NoTerm)"), ("know part(number 0, 0)", "(NoTerm)"),
            ("know part(row(), 0)", "(NoTerm)"), ("know part(row(number 1), 0)", "yes"), ("know part(row(number 1), 1)", "(NoTerm)"),
            ("fresh", "ok"), ("know part(mine(0), 0)", "(NoTerm)"), ("know part(lock(mine(0)), 0)", "yes"),
            ("know part(lock(mine(0)), 1)", "(NoTerm)"), ('know part(made(name "x", post(0)), 1)', "yes"),
            ("know row(part(print(post(0)), 0), part(part(post(0), 1), 3))", "yes"),
            ("know part(part(part(post(0), 1), 3), 0)", "no"), ("know part(part(part(post(0), 1), 3), 1)", "(NoTerm)"),
        )

    def test_at_any_depth(self):
        for wrong in ("post(9)", "mine(0)", "part(post(0), 7)", "part(number 1, 0)"):
            text = wrong
            for word in ("lock({})", "row(number 1, {})", 'made(name "x", {})', "print({})", "box({}, number 1)", "chest(number 0, {})", "part({}, 0)"):
                text = word.format(text)
                self.told(*ROOM, (f"know {text}", "(NoTerm)"), (f"send a {text}", "(NoTerm)"), ("card a", "4"))

    def test_what_is_sent(self):
        self.told(
            *ROOM, ("send a part(post(3), 1)", "(Unknown)"), ("fresh", "ok"), ("send a mine(0)", "refused unlike"),
            ("send b post(2)", "refused unlike"), ("send a lock(mine(0))", "refused unlike"), ('send a name "x"', "refused unlike"),
            ("write a r", "4"), ("send b post(4)", "words r 0"), ("send b post(4)", "refused gone"),
        )
        # What is sent is in the bag from then on, and in the open one.
        text = script(*ROOM)[0] + "fresh\n"
        for line in ("send a lock(mine(0))", "send b row(mine(0), number 3)"):
            before, world = played(text), played(text + line + "\n")
            self.assertEqual(len(world.bag()), len(before.bag()) + 1)
            self.assertEqual(world.post(), before.post())
        self.assertEqual(len(played(text + "know lock(mine(0))\n").bag()), len(played(text).bag()))

    def test_fresh_ones_are_those_of_the_script(self):
        # Those that the stranger makes for cards and changes are not counted.
        self.told(
            *ROOM, ("steal b", "9"), ("cardas b", "4"), ("know mine(0)", "(NoTerm)"), ("changeas b r", "5"), ("know mine(0)", "(NoTerm)"),
            ("writeas b r", "6"), ("know mine(0)", "(NoTerm)"), ("fresh", "ok"), ("know mine(0)", "yes"), ("know mine(1)", "(NoTerm)"),
        )


class ByHand:
    """Does the rows of a script on a world, each by its own call."""

    def __init__(self, row):
        self.world = World(row[3], row[1], row[2])
        self.mine = []
        self.lines = ["ok"]

    def term(self, expr):
        word, parts = expr
        if word in ("name", "number"):
            return self.world.put(word, parts)
        if word in ("post", "mine"):
            terms = self.world.post() if word == "post" else self.mine
        elif word == "part":
            book, term = self.world.book_now(), self.term(parts[0])
            book = self.world.book_now()
            terms = book.parts(term) if book.kind(term) not in ("name", "number", "fresh") else ()
            parts = parts[1:]
        else:
            return self.world.put(word, tuple([self.term(part) for part in parts]))
        if parts[0] >= len(terms):
            raise NoTerm()
        return terms[parts[0]]

    def outcome(self, told):
        if told[0] != "words":
            return " ".join([str(part) for part in told])
        book = self.world.book_now()
        text = ""
        if book.kind(told[3]) == "name":
            text = ' "' + "".join(["\\" + sign if sign in '\\"' else sign for sign in book.parts(told[3])[0]]) + '"'
        return f"words {told[1]} {told[2]}{text}"

    def do(self, row):
        try:
            told = self.done(row)
        except PostError as error:
            told = f"({error.__class__.__name__})"
        self.lines.append(told)
        return told

    def done(self, row):
        world, word, parts = self.world, row[0], row[1:]
        names = {"cardas": "card_as", "changeas": "change_as", "writeas": "write_as"}
        if word in ("card", "cardas", "found"):
            return str(getattr(world, names.get(word, word))(*parts))
        if word in ("change", "changeas"):
            return " ".join([str(number) for number in getattr(world, names.get(word, word))(*parts)])
        if word in ("write", "writeas"):
            return str(getattr(world, names.get(word, word))(*parts)[0])
        if word == "hand":
            return self.outcome(world.hand(*parts))
        if word == "send":
            if parts[0] not in world.names:
                return "(NoName)"
            return self.outcome(world.hand_term(self.term(parts[1]), parts[0]))
        if word == "steal":
            return str(len(world.steal(*parts)))
        if word == "know":
            return "yes" if world.knows(self.term(parts[0])) else "no"
        if word == "view":
            number, _, tree, _, leaf = world.view(*parts)
            return " ".join([str(number), str(leaf)] + [held[0] for held in tree.leaves if held])
        if word == "leave":
            world.leave(*parts)
        elif word == "fresh":
            self.mine.append(world.fresh())
        return "ok"


def drawn_script(chance, count):
    """Rows of a script drawn by chance, and what they tell by hand."""
    names = ("a", "b", "c")[:chance.randrange(2, 4)]
    rows = [("world", chance.randrange(4), chance.randrange(3), names)]
    hand = ByHand(rows[0])
    if chance.random() < 0.8:
        # A room of all to begin with.
        rows += [("card", name) for name in names[1:]] + [("found", "a", "r")]
        count += len(rows) + 1 + len(names)
        rows.append(("change", "a", "r", tuple([("add", at) for at in range(len(names) - 1)])))
        rows += [("hand", at, name) for at, name in enumerate(names, len(names))]
        for row in rows[1:]:
            hand.do(row)
    while len(rows) <= count:
        before = len(hand.world.post())
        more = [drawn_row(chance, hand, names)]
        hand.do(more[0])
        if chance.random() < 0.6:
            # What was handed in is handed to many.
            handed = [("hand", at, name) for at in range(before, len(hand.world.post())) for name in names if chance.random() < 0.8]
            more += handed
            for row in handed:
                hand.do(row)
        rows += more
    return rows, hand


def drawn_row(chance, hand, names):
    world = hand.world
    name = chance.choice(names + ("d",) if chance.random() < 0.05 else names)
    rooms = world.rooms(name) if name in names else []
    room = chance.choice(rooms) if rooms and chance.random() < 0.9 else chance.choice("rs")
    number = max(0, len(world.post()) - 1 - chance.choice((0, 0, 1, 2, 5, 9)))
    text = chance.choice((None, None, "hi", 'a "b" \\'))
    word = chance.choice(("card", "found", "change", "change", "write", "hand", "hand", "hand", "hand", "send", "steal", "fresh", "know", "view")
                         if chance.random() < 0.8 else ("cardas", "changeas", "writeas", "leave", "send", "know", "steal", "hand"))
    if word in ("change", "changeas"):
        cards = [("add", at) for at, term in enumerate(world.post()) if told_card(world.book, term)]
        wishes = [chance.choice(cards + [("remove", chance.randrange(4))]) for _ in range(chance.choice((0, 1, 1, 2)))]
        return word, name, room, tuple(wishes)
    if word in ("write", "writeas"):
        return word, name, room, text
    if word in ("found", "leave", "view"):
        return word, name, room
    if word == "hand":
        return word, number, name
    if word in ("send", "know"):
        expr = drawn(chance, 4)
        if not is_expr(expr) or chance.random() < 0.6:
            expr = ("post", (number,))
            for _ in range(chance.randrange(4)):
                expr = ("part", (expr, chance.randrange(4)))
        return (word, name, expr) if word == "send" else (word, expr)
    return (word,) if word == "fresh" else (word, name)


def told_of_world(world):
    """What a world tells without numbers of its book."""
    book = world.book_now()
    views = []
    for name in world.names:
        for room in world.rooms(name):
            number, _, tree, _, leaf = world.view(name, room)
            views.append((name, room, number, leaf, [held and held[0] for held in tree.leaves]))
    return (
        views, [book.kind(term) for term in world.post()], names(world), known(world), seen_words(world), len(world.bag()),
        [len(world.store(name)) for name in world.names],
    )


class FactTest(TaleCase):

    def test_beside_the_deeds_by_hand(self):
        seen = set()
        for seed in range(120):
            rows, hand = drawn_script(random.Random(seed), 40)
            text = script_text(rows)
            self.assertEqual(tale(text), hand.lines)
            self.assertEqual(told_of_world(played(text)), told_of_world(hand.world))
            seen.update([" ".join(line.split(" ")[:1 if line[0] != "r" else 2]) for line in hand.lines if not line[0].isdigit()])
        self.assertEqual(seen, {
            "ok", "changed", "out", "entered", "words", "yes", "no", "refused unlike", "refused old", "refused fork", "refused gone",
            "refused far", "refused room", "refused box", "(NoName)", "(NoRoom)", "(Named)", "(BadWish)", "(NoLetter)", "(NoTerm)", "(Unknown)",
        })

    def test_images_at_every_place(self):
        for seed in range(8):
            rows, hand = drawn_script(random.Random(1000 + seed), 16)
            whole = tale(script_text(rows))
            for at in range(1, len(rows) + 1):
                other = tale(script_text(rows[:at] + [("image",)] + rows[at:]))
                self.assertEqual(other, whole[:at] + ["ok"] + whole[at:])

    def test_images_at_all_places(self):
        for seed in range(12):
            rows, hand = drawn_script(random.Random(2000 + seed), 40)
            between = [row for one in rows for row in (one, ("image",))]
            text = script_text(between)
            lines = tale(text)
            self.assertEqual(lines[::2], hand.lines)
            self.assertEqual(lines[1::2], ["ok"] * len(rows))
            self.assertEqual(told_of_world(played(text)), told_of_world(hand.world))
            self.assertEqual(world_image(played(text)), world_image(played(script_text(rows))))

    def test_equal_calls(self):
        text = script(*ROOM)[0]
        lines = tale(text)
        lines.append("more")
        self.assertEqual(tale(text), script(*ROOM)[1])
        one, other = played(text), played(text)
        one.leave("a", "r")
        self.assertEqual(other.rooms("a"), ["r"])
        self.assertIsInstance(other, World)
        self.assertEqual(hangs(played(text + "steal b\nwrite a r\n"), ("words", 0)), [(0,)])


if __name__ == "__main__":
    unittest.main()
