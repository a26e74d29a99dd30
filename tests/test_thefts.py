import inspect
import random
import unittest

from strangerspost import thefts
from strangerspost.books import Book
from strangerspost.booktexts import book_text, read_book
from strangerspost.errors import BadImage, NoName, PostError
from strangerspost.images import world_image
from strangerspost.knowing import learner
from strangerspost.thefts import member_image, thief
from strangerspost.world import World
from tests.histories import History
from tests.imagelines import kinds, lines_of, replaced, text_of
from tests.test_booktexts import NO_TEXTS
from tests.test_images import told_world
from tests.worlds import NO_WORDS, WorldCase, handed, room_of


class ThiefCase(WorldCase):

    def bad(self, line, lines):
        self.bad_text(line, text_of(lines))

    def bad_text(self, line, text):
        with self.assertRaises(PostError) as caught:
            thief(text)
        self.assertIs(caught.exception.__class__, BadImage, text)
        self.assertEqual(caught.exception.line, line, text)


def member_lines(world, name):
    return member_image(world, name).split("\n")[:-1]


def own_lines(world, name):
    """The lines of a member in the world's image."""
    lines = lines_of(world)
    starts = kinds(lines, "member") + [len(lines)]
    at = world.names.index(name)
    return lines[starts[at]:starts[at + 1]]


# How many of the last words of each line are numbers of terms.
TERMS = {"member": 1, "card": 2, "room": 0, "key": 1, "chain": 2, "been": 2, "epoch": 2, "turn": 1, "kept": 1, "pending": 2}


def plain_image(world, name):
    """The image of a member as 9.5 tells it, put together of the lines of the world's image."""
    book, lines = world.book_now(), own_lines(world, name)
    named = []
    for line in lines:
        words = line.split(" ")
        named.extend([int(word) for word in words[len(words) - TERMS[words[0]]:] if word != "-"])
    wanted = book.within(named)
    fresh = [term for term in wanted if book.kind(term) == "fresh"]
    numbers = {str(term): str(at) for at, term in enumerate(wanted)}
    found = []
    for term in wanted:
        kind, parts = book.kind(term), book.parts(term)
        if kind == "fresh":
            found.append(f"term fresh {fresh.index(term)}")
        elif kind in ("name", "number"):
            other = Book()
            other.put(kind, parts)
            found.append("term " + book_text(other)[:-1])
        else:
            found.append(" ".join(["term", kind] + [numbers[str(part)] for part in parts]))
    for line in lines:
        words = line.split(" ")
        start = len(words) - TERMS[words[0]]
        found.append(" ".join(words[:start] + [numbers.get(word, word) for word in words[start:]]))
    return text_of(found)


class InterfaceTest(unittest.TestCase):

    def test_names(self):
        for name, given in (("member_image", ["world", "member"]), ("thief", ["text"])):
            self.assertEqual(list(inspect.signature(getattr(thefts, name)).parameters), given)
            self.assertEqual(getattr(thefts, name).__module__, "strangerspost.thefts")


class MemberImageTest(ThiefCase):

    def test_by_hand(self):
        world = World(("a", "b"), 0, 0)
        self.assertEqual(member_image(world, "b"), "term fresh 0\nmember b 0\n")
        world.card("a")
        number = world.card("b")
        expected = ["term fresh 0", "term fresh 1", "term fresh 2", "member b 0", f"card {number} 1 2"]
        self.assertEqual(member_lines(world, "b"), expected)
        book, store = thief(text_of(expected))
        self.assertEqual((book, store), (read_book("fresh 0\nfresh 1\nfresh 2\n"), (0, 1, 2)))

    def test_a_founder(self):
        world = World(("c", "a"), 0, 0)
        world.card("c")
        world.found("a", "r")
        # Its marks, its leaf's key and its epoch key are fresh; the tree's term is told ahead of the context.
        lines = member_lines(world, "a")
        heads = [line for line in lines if not line.startswith("term")]
        book = read_book(text_of([line[5:] for line in lines if line.startswith("term")]))
        terms = {}
        for term in range(book.size()):
            terms[(book.kind(term), book.parts(term))] = term

        def row(*items):
            return terms[("row", items)]

        def name(text):
            return terms[("name", (text,))]

        zero = terms[("number", (0,))]
        leaf = [term for term in range(3) if ("lock", (term,)) in terms]
        self.assertEqual(len(leaf), 1)
        self.assertEqual([book.kind(term) for term in range(3)], ["fresh"] * 3)
        tree = row(name("tree"), zero, row(row(name("a"), terms[("lock", (leaf[0],))])), row())
        context = row(name("context"), name("r"), zero, terms[("print", (tree,))], name("begin"))
        chain = [term for term in range(3) if ("made", (name("chain"), term)) in terms][0]
        marks = [term for term in range(3) if term not in (leaf[0], chain)][0]
        turn = terms[("made", (row(name("turn"), zero), terms[("made", (name("letters"), chain))]))]
        expected = [
            f"member a {marks}", "room r 0", f"key 0 0 {leaf[0]}",
            f"chain {terms[('made', (name('chain'), chain))]} {terms[('made', (name('seal'), chain))]}",
            f"been {terms[('print', (context,))]} -", f"epoch {context} {tree}", f"turn 0 0 {turn}",
        ]
        self.assertEqual(heads, expected)
        store = (marks, leaf[0], context, tree, turn, terms[("made", (name("chain"), chain))],
                 terms[("made", (name("seal"), chain))])
        self.assertEqual(thief(text_of(lines)), (book, tuple(sorted(store))))

    def test_just_the_lines_that_are_due(self):
        worlds = [told_world()[0], room_of("abc")]
        for seed in range(12):
            worlds.append(History(random.Random(seed), ("a", "b", "c"), seed % 2 == 0).go(40))
        for world in worlds:
            before = world_image(world)
            for name in world.names:
                image = member_image(world, name)
                self.assertEqual(image, plain_image(world, name))
                self.assertEqual(image, member_image(world.copy(), name))
            self.assertEqual(world_image(world), before)

    def test_no_names(self):
        world = room_of("ab")
        for name in NO_WORDS + ("c", "r", "zed"):
            self.refuses(NoName, world, member_image, world, name)


class ThiefTest(ThiefCase):

    def test_the_fact_of_thefts(self):
        for seed in range(14):
            history = History(random.Random(seed), ("a", "b", "c"), seed % 2 == 0)
            world = history.go(15 + 3 * seed)
            whole = world.book_now()
            for name in world.names:
                text = member_image(world, name)
                book, store = thief(text)
                self.assertEqual(book_text(book), text_of(
                    [line[5:] for line in text.split("\n") if line.startswith("term ")]))
                # The terms of the book are those of the world's, in their order.
                numbers = whole.within(world.store(name) + tuple(self.told_besides(world, name)))
                self.assertEqual(book.size(), len(numbers))
                self.assertEqual(tuple([numbers[term] for term in store]), world.store(name))
                mine, theirs = learner(book, store), learner(whole, world.store(name))
                for term in range(book.size()):
                    self.assertEqual(mine.knows(term), theirs.knows(numbers[term]))
                self.assertEqual(world.copy().steal(name), world.store(name))

    def told_besides(self, world, name):
        """What the lines of a member name that is not in its store."""
        found = []
        for room in world.held[name].joined.values():
            found.extend([term for pair in room.been for term in pair if term is not None])
            if room.pending is not None:
                found.append(room.pending[0])
        return found

    def test_what_is_returned_is_new(self):
        text = member_image(room_of("ab"), "b")
        one, other = thief(text), thief(text)
        one[0].fresh()
        self.assertNotEqual(one[0], other[0])
        self.assertEqual(thief(text), other)
        self.assertIsInstance(one, tuple)


class BadImageTest(ThiefCase):

    def setUp(self):
        self.world = told_world()[0]
        self.lines = member_lines(self.world, "b")
        self.terms = kinds(self.lines, "term")
        thief(text_of(self.lines))

    def test_no_strings(self):
        for thing in NO_TEXTS:
            self.bad_text(0, thing)

    def test_texts_that_are_none(self):
        self.bad_text(1, "")
        self.bad_text(1, "\n")
        self.bad_text(1, " ")
        self.bad_text(2, "term fresh 0\n")
        self.bad_text(2, "term fresh 0\nmember b 0")
        self.bad_text(1, "member b 0\n")
        self.bad_text(2, "term fresh 0\nmember b 1\n")

    def test_lines_of_other_things(self):
        world = lines_of(self.world)
        self.bad(1, [world[0]] + self.lines)
        count = len(self.terms)
        for line in ("post 0", "bag", "bag 0", "note mark 0 0", "world 3 1", "", "x"):
            self.bad(count + 1, self.lines[:count] + [line] + self.lines[count:])
            self.bad(len(self.lines) + 1, self.lines + [line])
            self.bad(1, [line] + self.lines)
        for line in ("member a 0", "member b 0", "term fresh 0"):
            self.bad(len(self.lines) + 1, self.lines + [line])
        self.bad(1, world)
        self.bad(len(self.lines) + 1, self.lines + self.lines[count:])

    def test_terms_that_nothing_names(self):
        count = len(self.terms)
        self.bad(count + 1, self.lines[:count] + ['term name "more"'] + self.lines[count:])
        self.bad(count + 1, self.lines[:count] + ['term name "more"', f"term lock {count}"] + self.lines[count:])
        # What names it is out.
        at = kinds(self.lines, "card")[0]
        rows = self.lines[:at] + self.lines[at + 1:]
        key = int(self.lines[at].split(" ")[2])
        self.bad(key + 1, rows)
        self.bad(1, ["term fresh 0", "term fresh 1", "member b 1"])
        self.bad(2, ["term fresh 0", "term fresh 1", "member b 0"])
        # Lines that are wrong by themselves are told ahead of that.
        self.bad(len(rows) + 1, rows + ["x"])

    def test_terms_that_lack(self):
        for at in kinds(self.lines, *TERMS):
            words = self.lines[at].split(" ")
            for place in range(len(words) - TERMS[words[0]], len(words)):
                for number in (len(self.terms), 10 ** 12 - 1):
                    if words[place] != "-":
                        self.bad(at + 1, replaced(self.lines, at, " ".join(words[:place] + [str(number)] + words[place + 1:])))
        for at in self.terms:
            rows = self.lines[:at] + self.lines[at + 1:]
            with self.assertRaises(BadImage) as caught:
                thief(text_of(rows))
            self.assertGreater(caught.exception.line, at)

    def test_words_and_numbers(self):
        for at, line in enumerate(self.lines):
            word, _, rest = line.partition(" ")
            if word == "term" and at % 9:
                continue
            for other in (f"{word}s {rest}", f"{word}  {rest}", f" {line}", f"{line} ", f"{line}\r", "", word):
                self.bad(at + 1, replaced(self.lines, at, other))
            if word != "term":
                self.bad(at + 1, replaced(self.lines, at, line + " 0"))
                self.bad(at + 1, replaced(self.lines, at, line.rpartition(" ")[0]))
                self.bad(at + 1, replaced(self.lines, at, line.rpartition(" ")[0] + " 00"))
                self.bad(at + 1, replaced(self.lines, at, line.rpartition(" ")[0] + " 1000000000000"))

    def test_orders(self):
        for word in ("member", "card", "room", "key", "chain", "turn", "kept", "pending"):
            at = kinds(self.lines, word)[0]
            self.bad(at + 2, self.lines[:at + 1] + self.lines[at:])
        for word in ("member", "room", "chain"):
            at = kinds(self.lines, word)[0]
            self.bad(at + 1, self.lines[:at] + self.lines[at + 1:])
        self.bad_text(len(self.lines), text_of(self.lines)[:-1])
        self.bad_text(len(self.lines) + 1, text_of(self.lines) + "x")
        self.bad_text(len(self.lines) + 1, text_of(self.lines) + "\n")

    def test_any_number_of_the_post(self):
        # The post is not there, so any number of it can stand there, in their order.
        rows = ["term fresh 0", "term fresh 1", "term fresh 2", "member b 0", "card 999999999999 1 2"]
        self.assertEqual(thief(text_of(rows))[1], (0, 1, 2))
        self.bad(5, rows[:4] + ["card 1000000000000 1 2"])
        self.bad(6, rows + ["card 999999999999 1 2"])
        self.bad(6, rows + ["card 7 1 2"])

    def test_spoilt_ones(self):
        for seed in range(150):
            chance = random.Random(seed)
            rows = list(self.lines)
            for _ in range(chance.randrange(1, 4)):
                at = chance.randrange(len(rows))
                words = rows[at].split(" ")
                words[chance.randrange(len(words))] = chance.choice(("0", "1", "77", "-", "x", "key", "term"))
                rows[at] = " ".join(words)
            try:
                book, store = thief(text_of(rows))
            except BadImage as error:
                self.assertTrue(1 <= error.line <= len(rows) + 1)
                continue
            self.assertTrue(all([0 <= term < book.size() for term in store]))

    def test_of_all_members(self):
        world = room_of("abcd")
        handed(world, world.change("b", "r", (("remove", 3),)))
        for name in "abcd":
            book, store = thief(member_image(world, name))
            self.assertEqual(len(store), len(world.store(name)))


if __name__ == "__main__":
    unittest.main()
