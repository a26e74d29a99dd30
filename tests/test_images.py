import inspect
import random
import unittest

from strangerspost import images
from strangerspost.errors import BadImage, NoLetter, NoRoom
from strangerspost.images import is_image, restored, world_image
from strangerspost.world import World
from strangerspost.worldrules import can_lead, hangs, known, names, reach, rule_of, seen_words, term_of, would_bar
from tests.histories import History
from tests.imagelines import ImageCase, kinds, lines_of, text_of, without_notes
from tests.test_booktexts import NO_TEXTS
from tests.worlds import Hand, handed, joined, plain_change, room_of, state


def told_world():
    """A world with cards used up and not, two rooms, elder epochs, kept keys, a pending change, and what they are of."""
    world = World(("b", "a"), 3, 1)
    cards = [world.card("a"), world.card("a"), world.card("b")]
    world.found("b", "s")
    world.found("b", "r")
    joining = world.change("b", "r", (("add", cards[1]),))
    handed(world, joining)
    further = world.change("a", "r", ())
    handed(world, further)
    for text in ("one", "two", "three"):
        number = world.write("a", "r", text)[0]
    world.hand(number, "b")
    last = world.change("b", "r", ())
    return world, cards, joining, further, last


class InterfaceTest(unittest.TestCase):

    def test_names(self):
        for name, given in (("world_image", ["world"]), ("restored", ["text"]), ("is_image", ["thing"])):
            self.assertEqual(list(inspect.signature(getattr(images, name)).parameters), given)
            self.assertEqual(getattr(images, name).__module__, "strangerspost.images")


class ByHandTest(ImageCase):

    def test_a_world_without_rooms(self):
        world = World(("b", "a"), 50, 0)
        hand, book = Hand(world), world.book_now()
        marks = [world.store(name)[0] for name in ("b", "a")]
        expected = ["world 50 0"] + [""] * 4
        for place, key in enumerate(marks):
            expected[1 + key] = f"term fresh {place}"
            expected[1 + hand.lock(key)] = f"term lock {key}"
        bag = sorted([hand.lock(key) for key in marks])
        expected += [f"bag {bag[0]} {bag[1]}", f"member b {marks[0]}", f"member a {marks[1]}"]
        self.assertEqual(world.book_now(), book)
        self.assertEqual(without_notes(lines_of(world)), expected)
        self.assertTrue(world_image(world).endswith("\n"))

    def test_the_ends_of_an_image(self):
        for world in (World(("a",), 0, 0), told_world()[0], room_of("abc")):
            lines = lines_of(world)
            terms = kinds(lines, "term")
            self.assertEqual(terms, list(range(1, world.book_now().size() + 1)))
            posts = kinds(lines, "post")
            self.assertEqual([lines[at] for at in posts], [f"post {term}" for term in world.post()])
            rest = lines[len(terms) + 1 + len(posts):]
            self.assertEqual(rest[0], " ".join(["bag"] + [str(term) for term in world.bag()]))
            heads = [line.split(" ")[0] for line in rest[1:]]
            self.assertEqual(heads[heads.index("member"):].count("note"), 0)
            self.assertEqual(set(heads[:heads.index("member")]), {"note"})
            self.assertEqual(world_image(world), text_of(lines))

    def test_what_members_hold(self):
        world, cards, joining, further, last = told_world()
        hand, post = Hand(world), world.post()
        b, a = world.held["b"], world.held["a"]
        one, _, other = [world.book_now().parts(world.book_now().parts(post[card])[1]) for card in cards]
        book = world.book_now()

        def lock_key(lock):
            return book.parts(lock)[0]

        founded = plain_views(world, post, joining, further)
        expected = [f"member b {b.marks}"]
        expected += [f"card {cards[2]} {lock_key(other[2])} {lock_key(other[3])}"]
        expected += ["room r 0"] + founded["b"]
        expected += [f"pending {post[last[0]]} {b.joined['r'].pending[1]}"]
        key = b.joined["s"].held[(0, 0)]
        epoch_key = book.parts(b.joined["s"].chain)[1]
        context, tree = world.view("b", "s")[1], hand.tree(0, [("b", hand.lock(key))], {})
        expected += ["room s 0", f"key 0 0 {key}", f"chain {hand.made('chain', epoch_key)} {hand.made('seal', epoch_key)}"]
        expected += [f"been {hand.print(context)} -", f"epoch {context} {tree}", f"turn 0 0 {hand.turn(0, 0, epoch_key)}"]
        self.assertEqual(context, hand.context("s", 0, tree, hand.name("begin")))
        expected += [f"member a {a.marks}", f"card {cards[0]} {lock_key(one[2])} {lock_key(one[3])}"]
        expected += ["room r 1"] + founded["a"]
        self.assertEqual(world.book_now(), book)
        lines = lines_of(world)
        self.assertEqual(lines[kinds(lines, "member")[0]:], expected)
        self.taken(lines)

    def test_it_is_told_alike(self):
        for seed in range(20):
            twice = [History(random.Random(seed), ("a", "b", "c"), True).go(40) for _ in range(2)]
            image = world_image(twice[0])
            self.assertEqual(world_image(twice[1]), image)
            self.assertEqual(world_image(twice[0].copy()), image)
            self.assertEqual(world_image(twice[0]), image)
            before = state(twice[0])
            world_image(twice[0])
            self.assertEqual(state(twice[0]), before)


def plain_views(world, post, joining, further):
    """The lines of the room "r" of told_world, put together by the points: of b and of a."""
    hand, book = Hand(world), world.book_now()
    b, a = world.held["b"].joined["r"], world.held["a"].joined["r"]
    # Both changes told again by plain means, on a world of the same deeds.
    again = World(("b", "a"), 3, 1)
    for name in ("a", "a", "b"):
        again.card(name)
    again.found("b", "s")
    again.found("b", "r")
    chain = again.held["b"].joined["r"].chain
    first = again.view("b", "r")
    start = again.book_now().size()
    again.change("b", "r", (("add", 1),))
    one = plain_change(again, "b", "r", (("add", post[1]),), start, chain)
    handed(again, joining)
    chain, start = again.held["a"].joined["r"].chain, again.book_now().size()
    again.change("a", "r", ())
    two = plain_change(again, "a", "r", (), start, chain)
    # The same deeds gave the same numbers, and so these terms are those of the world.
    labels = [hand.print(term) for term in (first[1], one["context"], two["context"])]
    both = [f"chain {hand.made('chain', two['epoch'])} {hand.made('seal', two['epoch'])}"]
    both_been = [f"been {labels[1]} {post[further[0]]}", f"been {labels[2]} -"]
    elder = f"epoch {one['context']} {one['tree']}"
    own = f"epoch {two['context']} {two['tree']}"

    def turn(leaf, place, keys):
        return f"turn {leaf} {place} {hand.turn(leaf, place, keys['epoch'])}"

    lines = {"b": [f"key 0 0 {one['keys'][0]}", f"key 1 0 {two['keys'][1]}"] + both}
    lines["b"] += [f"been {labels[0]} {post[joining[0]]}"] + both_been
    lines["b"] += [elder, turn(0, 0, one), turn(1, 0, one), own, turn(0, 0, two), turn(1, 3, two)]
    for place in (0, 1):
        kept = hand.made("key", hand.turn(1, place, two["epoch"]))
        lines["b"].append(f"kept 1 {place} {kept}")
    lines["a"] = [f"key 0 1 {two['keys'][0]}", f"key 1 0 {two['keys'][1]}"] + both + both_been
    lines["a"] += [elder, turn(0, 0, one), turn(1, 0, one), own, turn(0, 0, two), turn(1, 3, two)]
    assert (book.size(), a.leaf, b.leaf) == (world.book_now().size(), 1, 0)
    return lines


class RestoredTest(ImageCase):

    def test_what_is_restored(self):
        world = told_world()[0]
        world.steal("a")
        world.put("lock", (0,))
        other = restored(world_image(world))
        self.assertIsInstance(other, World)
        self.assertEqual(state(other), state(world))
        self.assertEqual(world_image(other), world_image(world))
        self.assertEqual((other.names, other.window, other.keep), (("b", "a"), 3, 1))
        self.assertEqual(other.book_now(), world.book_now())

    def test_they_go_on_apart(self):
        world = told_world()[0]
        text = world_image(world)
        one, other = restored(text), restored(text)
        one.write("a", "r", None)
        one.steal("b")
        one.leave("a", "r")
        one.fresh()
        self.assertEqual(world_image(other), text)
        self.assertEqual(world_image(world), text)
        self.assertNotEqual(world_image(one), text)
        with self.assertRaises(NoRoom):
            one.view("a", "r")
        self.assertEqual(other.view("a", "r"), world.view("a", "r"))

    def test_no_strings(self):
        for thing in NO_TEXTS:
            self.refused(BadImage, 0, thing)

    def test_a_full_world(self):
        world = World(tuple("abcdefghijkl"), 0, 50)
        world.found("a", "r")
        numbers = joined(world, "a", "r", *"bcdefghijkl")
        self.assertEqual(len(numbers), 12)
        handed(world, world.change("l", "r", (("remove", 3), ("remove", 4))))
        text = world_image(world)
        self.assertEqual(world_image(restored(text)), text)


def asked(world):
    """All that section 8 tells of a world, and what else can be asked."""
    book, told = world.book_now(), names(world)
    rule = rule_of(world)
    found = [told, [term_of(world, name) for name in told], (rule.clauses, rule.grounds), known(world), seen_words(world)]
    count = len(rule.grounds) - 1
    found.append([reach(world, theft) for theft in range(count)])
    if count <= 15:
        found.append([(hangs(world, name), would_bar(world, name)) for name in told[::7]])
    epochs = len(world.ledger.sealed)
    found.append([can_lead(world, name, e) for name in world.names for e in range(epochs)])
    found.append([world.knows(term) for term in range(book.size())])
    found.append((world.post(), world.bag(), book))
    for name in world.names:
        rooms = world.rooms(name)
        found.append((world.store(name), rooms, [world.view(name, room) for room in rooms]))
    return found


class FactTest(ImageCase):

    def both_go_on(self, history, chance):
        """The world of a history and the one restored of its image: the same is told, behind further deeds too."""
        world = history.world
        text = world_image(world)
        other = restored(text)
        self.assertEqual(world_image(other), text)
        self.assertEqual(asked(other), asked(world))
        twin = History(random.Random(), history.names, history.stranger)
        twin.world, twin.made_up = other, list(history.made_up)
        twin.own_rooms = [(maker, own.copy()) for maker, own in history.own_rooms]
        seed = chance.randrange(10 ** 6)
        told = []
        for one in (history, twin):
            one.chance, one.told = random.Random(seed), []
            one.go(12)
            told.append(one.told)
        self.assertEqual(told[0], told[1])
        self.assertEqual(world_image(other), world_image(world))
        self.assertEqual(asked(other), asked(world))
        return told[0]

    def test_histories(self):
        refused = 0
        for seed in range(24):
            chance = random.Random(seed)
            history = History(chance, ("a", "b", "c", "d")[:2 + seed % 3], seed % 4 != 0)
            for _ in range(3):
                history.go(chance.randrange(4, 20))
                told = self.both_go_on(history, chance)
                refused += len([1 for deed, what in told if isinstance(what, str)])
                history.chance = chance
        self.assertGreater(refused, 20)

    def test_what_is_open_stays_open(self):
        # A term that was stolen is handed besides: from then on it is in the open bag, too.
        world = room_of("ab")
        world.steal("b")
        context = world.view("b", "r")[1]
        for deed in (lambda: world.hand_term(context, "a"), lambda: world.steal("a"), world.fresh):
            deed()
            other = restored(world_image(world))
            self.assertEqual(asked(other), asked(world))
            self.assertEqual(sorted(other.openly.bag()), sorted(world.openly.bag()))

    def test_refused_deeds_and_questions_change_nothing(self):
        world = room_of("abc")
        world.steal("b")
        text = world_image(world)
        with self.assertRaises(NoLetter):
            world.hand(10 ** 6, "a")
        asked(world)
        is_image(text)
        self.assertEqual(world_image(world), text)


if __name__ == "__main__":
    unittest.main()
