import random
import unittest

from strangerspost.trees import tree_of
from tests.histories import History
from tests.worlds import Hand, WorldCase, handed, joined, plain_change, room_of
from strangerspost.world import World


class TermsTest(WorldCase):

    def test_a_card(self):
        world = World(("a", "b"), 2, 1)
        (marks,) = world.store("b")
        number = world.card("b")
        self.assertEqual(number, 0)
        (key, entry), = [card[1:] for card in world.held["b"].cards]
        book = world.book_now()
        self.assertEqual((book.kind(key), book.kind(entry), len({key, entry, marks})), ("fresh", "fresh", 3))
        self.assertEqual(world.post(), [Hand(world).card(marks, "b", key, entry)])
        self.assertEqual(world.store("b"), tuple(sorted((marks, key, entry))))
        self.assertEqual(world.store("a"), (world.held["a"].marks,))

    def test_a_founding(self):
        world = World(("a", "b"), 2, 1)
        hand = Hand(world)
        self.assertEqual(world.found("b", "room"), 0)
        number, context, tree, seal, leaf = world.view("b", "room")
        room = world.held["b"].joined["room"]
        book = world.book_now()
        key = room.held[(0, 0)]
        self.assertEqual((number, leaf, book.kind(key), room.held), (0, 0, "fresh", {(0, 0): key}))
        self.assertEqual((tree.height, tree.leaves, tree.nodes), (0, (("b", hand.lock(key)),), ()))
        tree_term = hand.tree(0, (("b", hand.lock(key)),), {})
        self.assertEqual(context, hand.context("room", 0, tree_term, hand.name("begin")))
        self.assertEqual(world.post(), [hand.row("found", context, tree_term)])
        (epoch_key,) = [term for term in range(book.size()) if book.kind(term) == "fresh" and hand.made("seal", term) == seal]
        turn = hand.turn(0, 0, epoch_key)
        self.assertEqual(world.store("b"), tuple(sorted({
            world.held["b"].marks, key, seal, hand.made("chain", epoch_key), turn, context, tree_term})))
        self.assertNotIn(epoch_key, world.store("b"))

    def test_an_empty_change(self):
        world = World(("a",), 2, 1)
        world.found("a", "r")
        room = world.held["a"].joined["r"]
        chain = room.chain
        (number,) = world.change("a", "r", ())
        start = room.pending[1]
        self.assertIn(start, world.store("a"))
        plain = plain_change(world, "a", "r", (), start, chain)
        self.assertEqual(world.post()[number], plain["letter"])
        self.assertEqual(world.hand(number, "a"), ("changed", "r", 1))
        self.holds(world, "a", "r", plain, {(0, 0): plain["keys"][0]})
        self.assertNotIn(start, world.store("a"))

    def holds(self, world, member, name, plain, held):
        """A member has come to the epoch of a change, and holds these keys of nodes."""
        hand, room = Hand(world), world.held[member].joined[name]
        number, context, tree, seal, leaf = world.view(member, name)
        self.assertEqual(context, plain["context"])
        self.assertEqual(tree, tree_of(world.book_now(), plain["tree"]))
        self.assertEqual(seal, hand.made("seal", plain["epoch"]))
        self.assertEqual(room.chain, hand.made("chain", plain["epoch"]))
        self.assertEqual(room.held, held)
        own = room.epochs[-1]
        self.assertEqual(own.turns, {
            leaf: (0, hand.turn(leaf, 0, plain["epoch"])) for leaf, one in enumerate(tree.leaves) if one is not None})
        self.assertEqual((own.context, own.tree), (plain["context"], plain["tree"]))
        # The epoch key, the letters key, the joiner and the root are let go of, and p(i) all along.
        store = world.store(member)
        for term in [plain["epoch"], hand.made("letters", plain["epoch"]), plain["joiner"], plain["root"]] + plain["ways"]:
            self.assertNotIn(term, store)

    def test_a_change_with_removals_and_additions(self):
        names = ("a", "b", "c", "d", "e")
        world = room_of(names[:4] + names[4:])
        self.assertEqual(world.view("a", "r")[2].height, 3)
        # b renews its path, so some nodes are not blank; then c changes all at once.
        handed(world, world.change("b", "r", ()))
        cards = [world.card("a"), world.card("d"), world.card("e")]
        wishes = (("add", cards[1]), ("remove", 3), ("add", cards[2]), ("remove", 4))
        chain = world.held["c"].joined["r"].chain
        numbers = world.change("c", "r", wishes)
        post = world.post()
        terms = tuple([(word, post[of] if word == "add" else of) for word, of in wishes])
        plain = plain_change(world, "c", "r", terms, world.held["c"].joined["r"].pending[1], chain)
        self.assertEqual([post[number] for number in numbers], [plain["letter"]] + plain["welcomes"])
        self.assertEqual(len(numbers), 3)
        ahead = {name: dict(world.held[name].joined["r"].held) for name in names}
        self.assertEqual(handed(world, numbers[:1], "d", "e", "a", "b", "c"), [
            ("out", "r"), ("out", "r"), ("changed", "r", 6), ("changed", "r", 6), ("changed", "r", 6)])
        self.assertEqual(world.rooms("d"), [])
        keys = plain["keys"]
        two = {(2, 0): keys[2], (3, 0): keys[3]}
        self.holds(world, "a", "r", plain, {**two, (0, 0): ahead["a"][(0, 0)], (1, 0): ahead["a"][(1, 0)]})
        self.holds(world, "b", "r", plain, {**two, (0, 1): ahead["b"][(0, 1)], (1, 0): ahead["b"][(1, 0)]})
        self.holds(world, "c", "r", plain, {**two, (0, 2): keys[0], (1, 1): keys[1]})
        key = {name: [card[1] for card in world.held[name].cards] for name in "de"}
        self.assertEqual(handed(world, numbers[1:], "d", "e"), [
            ("entered", "r", 6), ("refused", "unlike"), ("refused", "unlike"), ("entered", "r", 6)])
        self.holds(world, "d", "r", plain, {**two, (0, 3): key["d"][0], (1, 1): keys[1]})
        self.holds(world, "e", "r", plain, {(0, 4): key["e"][0], (3, 0): keys[3]})
        self.assertEqual((world.held["d"].cards, world.held["e"].cards), ([], []))

    def test_several_changes_one_behind_another(self):
        world = room_of("abc")
        makers = ("c", "a", "b", "b", "c")
        for at, maker in enumerate(makers):
            chain = world.held[maker].joined["r"].chain
            (number,) = world.change(maker, "r", ())
            plain = plain_change(world, maker, "r", (), world.held[maker].joined["r"].pending[1], chain)
            self.assertEqual(world.post()[number], plain["letter"])
            self.assertEqual(handed(world, (number,)), [("changed", "r", 3 + at)] * 3)
            for name in "abc":
                self.assertEqual(world.view(name, "r")[1], plain["context"])

    def test_a_member_removed_and_added_again(self):
        world = room_of("abc")
        for added in ((), (("add", world.card("b")),)):
            numbers = world.change("a", "r", (("remove", 1),) if not added else added)
            handed(world, numbers)
        self.assertEqual([world.view(name, "r")[0] for name in "abc"], [4, 4, 4])
        card = world.card("b")
        numbers = world.change("a", "r", (("remove", 1), ("add", card)))
        self.assertEqual(handed(world, numbers, "b"), [("out", "r"), ("entered", "r", 5)])

    def test_drawn_changes(self):
        count = 0
        for seed in range(60):
            history = History(random.Random(seed), ("a", "b", "c", "d", "e"), False)
            world = history.world
            for _ in range(40):
                history.deed()
                member = history.member()
                room = history.room(member)
                if history.chance.random() < 0.3 and room in world.rooms(member):
                    chain = world.held[member].joined[room].chain
                    numbers = history.rightly(world.change, member, room)
                    post = world.post()
                    letter = world.held[member].joined[room].pending
                    wishes = self.wishes_of(world, letter[0])
                    plain = plain_change(world, member, room, wishes, letter[1], chain)
                    self.assertEqual([post[number] for number in numbers], [plain["letter"]] + plain["welcomes"])
                    count += 1
        self.assertGreater(count, 200)

    def wishes_of(self, world, letter):
        """The wishes that a letter tells."""
        book = world.book_now()
        body = book.parts(book.parts(letter)[0])[1]
        told = []
        for wish in book.parts(book.parts(body)[3]):
            word, of = book.parts(wish)
            word = book.parts(word)[0]
            told.append((word, of if word == "add" else book.parts(of)[0]))
        return tuple(told)


class WhoGetsItTest(WorldCase):

    def test_who_is_removed_gets_nothing(self):
        world = room_of("abcd")
        handed(world, world.change("b", "r", ()))
        world.steal("c")
        before = world.held["c"].joined["r"].copy()
        (number,) = world.change("a", "r", (("remove", 2),))
        self.assertEqual(handed(world, (number,)), [
            ("changed", "r", 5), ("changed", "r", 5), ("out", "r"), ("changed", "r", 5)])
        self.assertIsNotNone(before)
        for name in "abd":
            room = world.held[name].joined["r"]
            self.assertFalse(world.knows(room.chain))
            self.assertFalse(world.knows(room.seal))
            for place, turn in room.epochs[-1].turns.values():
                self.assertFalse(world.knows(turn))

    def test_each_that_stays_gets_it_by_one_box(self):
        for seed in range(30):
            history = History(random.Random(seed), ("a", "b", "c", "d", "e", "f"), False)
            world = history.world
            world.found("a", "r")
            for name in "bcdef":
                joined(world, "a", "r", name)
            for _ in range(6):
                maker = history.chance.choice([name for name in "abcdef" if "r" in world.rooms(name)])
                there = [name for name in "abcdef" if "r" in world.rooms(name)]
                tree = world.view(maker, "r")[2]
                others = [leaf for leaf, one in enumerate(tree.leaves) if one and one[0] != maker]
                wishes = (("remove", history.chance.choice(others)),) if len(there) > 3 and seed % 2 else ()
                (number,) = world.change(maker, "r", wishes)
                boxes = self.boxes(world, world.post()[number])
                for name in there:
                    held = [Hand(world).lock(key) for key in world.held[name].joined["r"].held.values()]
                    fits = [box for box in boxes if box in held]
                    out = [tree.leaves[leaf][0] for word, leaf in wishes]
                    self.assertEqual(len(fits), 0 if name == maker or name in out else 1)
                handed(world, (number,))
                self.assertEqual(len({world.view(name, "r")[1] for name in there if "r" in world.rooms(name)}), 1)

    def boxes(self, world, letter):
        """The locks of all boxes of a letter."""
        book = world.book_now()
        body = book.parts(book.parts(letter)[0])[1]
        found = []
        for level in book.parts(book.parts(body)[5]):
            found.extend([book.parts(box)[0] for box in book.parts(book.parts(level)[1])])
        return found


if __name__ == "__main__":
    unittest.main()
