import inspect
import random
import unittest

from strangerspost import world as world_file
from strangerspost.books import Book
from strangerspost.changing import removals
from strangerspost.errors import (
    BadWish, BadWorld, Named, NoKind, NoLetter, NoName, NoParts, NoRoom, NoTerm, NoWords, Unknown,
)
from strangerspost.trees import Tree
from strangerspost.world import World
from tests.histories import History, sound
from tests.things import NO_TERMS, deep
from tests.worlds import NO_WORDS, Hand, WorldCase, handed, joined, room_of, state

NO_NUMBERS = (-1, True, False, None, "", "0", b"0", (), (0,), [0], {}, range(1), Book(), deep(40), 10 ** 39)


class InterfaceTest(unittest.TestCase):

    def test_names(self):
        given = {
            "card": ["member"], "found": ["member", "room"], "put": ["kind", "parts"], "fresh": [], "card_as": ["member"],
            "change": ["member", "room", "wishes"], "change_as": ["member", "room", "wishes"], "hand": ["number", "member"],
            "hand_term": ["term", "member"], "steal": ["member"], "store": ["member"], "view": ["member", "room"],
            "write": ["member", "room", "words"], "write_as": ["member", "room", "words"], "leave": ["member", "room"],
            "rooms": ["member"], "post": [], "bag": [], "book_now": [], "knows": ["term"], "copy": [],
        }
        for name, parts in given.items():
            self.assertIn(name, vars(World))
            self.assertEqual(list(inspect.signature(getattr(World, name)).parameters), ["self"] + parts)
        self.assertEqual(list(inspect.signature(World).parameters), ["names", "window", "keep"])
        self.assertEqual(World.__module__, world_file.__name__)


class NewWorldTest(WorldCase):

    def bad(self, part, *given):
        with self.assertRaises(BadWorld) as caught:
            World(*given)
        self.assertEqual(caught.exception.part, part)

    def test_right_ones(self):
        many = tuple("abcdefghijkl")
        for names, window, keep in ((("a",), 0, 0), (("abcdefghijkl", "b"), 50, 50), (many, 1, 2)):
            world = World(names, window, keep)
            self.assertEqual((world.post(), [world.rooms(name) for name in names]), ([], [[] for _ in names]))
            hand = Hand(world)
            marks = [world.store(name) for name in names]
            self.assertEqual(sorted(set(marks)), sorted(marks))
            self.assertEqual(world.bag(), sorted([hand.lock(mark) for (mark,) in marks]))
            for (mark,) in marks:
                self.assertEqual(world.book_now().kind(mark), "fresh")
                self.assertFalse(world.knows(mark))

    def test_bad_ones(self):
        for names in (
            (), ["a"], "a", "ab", None, 0, True, {}, {"a": 0}, tuple("abcdefghijklm"), ("a", "a"), ("a", "b", "a"), deep(40),
        ):
            self.bad("names", names, 0, 0)
            self.bad("names", names, None, None)
        for name in NO_WORDS:
            if name != "zz":
                self.bad("names", ("a", name), 0, 0)
        for number in NO_NUMBERS + (51,):
            self.bad("window", ("a",), number, 0)
            self.bad("window", ("a",), number, None)
            self.bad("keep", ("a",), 0, number)


class ErrorsTest(WorldCase):

    def setUp(self):
        self.world = room_of("ab")
        self.world.card("b")

    def test_members_ahead_of_all_else(self):
        world = self.world
        for name in NO_WORDS:
            for call, rest in (
                (world.card, ()), (world.steal, ()), (world.card_as, ()), (world.store, ()), (world.rooms, ()),
                (world.found, (None,)), (world.leave, (None,)), (world.view, (None,)), (world.change, (None, None)),
                (world.write, (None, 0)), (world.change_as, (None, None)), (world.write_as, (None, 0)),
            ):
                self.refuses(NoName, world, call, name, *rest)
            self.refuses(NoName, world, world.hand, None, name)
            self.refuses(NoName, world, world.hand_term, None, name)

    def test_rooms_ahead_of_all_else(self):
        world = self.world
        other = World(("a", "b"), 1, 1)
        other.found("a", "r")
        for room in NO_WORDS + ("s",):
            for call, rest in (
                (world.leave, ()), (world.view, ()), (world.change, (None,)), (world.write, (0,)), (world.change_as, (None,)),
                (world.write_as, (0,)),
            ):
                self.refuses(NoRoom, world, call, "a", room, *rest)
        self.refuses(NoRoom, other, other.view, "b", "r")
        self.refuses(NoRoom, other, other.leave, "b", "r")

    def test_found(self):
        world = self.world
        for room in NO_WORDS:
            if room != "zz":
                self.refuses(NoName, world, world.found, "a", room)
        self.refuses(Named, world, world.found, "a", "r")
        self.assertEqual(world.found("a", "s"), len(world.post()) - 1)
        self.assertEqual(world.rooms("a"), ["r", "s"])

    def test_words(self):
        world = self.world
        for words in ("x" * 41, "\n", "\u00e4", 0, True, b"", (), [], ("a",), {}, Book(), deep(40)):
            self.refuses(NoWords, world, world.write, "a", "r", words)
            self.refuses(NoWords, world, world.write_as, "a", "r", words)
        for words in ("", " ~", "x" * 40, '"\\'):
            number, term = world.write("a", "r", words)
            self.assertEqual(world.book_now().parts(term), (words,))

    def test_hand(self):
        world = self.world
        for number in NO_NUMBERS + (len(world.post()),):
            self.refuses(NoLetter, world, world.hand, number, "a")

    def test_hand_term(self):
        world = self.world
        size = world.book_now().size()
        for term in NO_TERMS + (size, deep(40)):
            self.refuses(NoTerm, world, world.hand_term, term, "a")
            self.refuses(NoTerm, world, world.knows, term)
        self.refuses(Unknown, world, world.hand_term, world.store("a")[0], "a")
        lock = Hand(world).lock(world.store("a")[0])
        secret = Hand(world).row(lock, world.held["a"].joined["r"].seal)
        self.refuses(Unknown, world, world.hand_term, secret, "b")

    def test_put(self):
        world = self.world
        for kind in ("", "fresh", "Name", None, 0, b"name", ("name",), deep(40)):
            self.refuses(NoKind, world, world.put, kind, ("a",))
        for kind, parts in (("name", ["a"]), ("name", (0,)), ("row", (10 ** 6,)), ("made", (0,)), ("lock", (True,))):
            self.refuses(NoParts, world, world.put, kind, parts)
        term = world.put("name", ("new one",))
        self.assertEqual((world.book_now().parts(term), world.put("name", ("new one",))), (("new one",), term))


class WishesTest(WorldCase):

    def setUp(self):
        # Leaves 0 to 2 are a, b and c, leaf 3 is blank; d and e are not there.
        self.world = World(tuple("abcde"), 2, 1)
        self.world.found("a", "r")
        for name in "bc":
            joined(self.world, "a", "r", name)
        self.cards = {name: self.world.card(name) for name in "abcde"}

    def bad(self, at, wishes, call=None):
        told = self.refuses(BadWish, self.world, call or self.world.change, "a", "r", wishes).at
        self.assertEqual((told, told.__class__), (at, int))

    def test_no_tuples(self):
        for wishes in ([], None, "", 0, True, {}, [("remove", 1)], deep(40), range(0)):
            self.bad(-1, wishes)
            self.bad(-1, wishes, self.world.change_as)

    def test_no_such_pairs(self):
        right = (("remove", 1), ("add", self.cards["d"]))
        for wish in (
            (), ("remove",), ("remove", 2, 0), ["remove", 2], "remove", None, 0, ("Remove", 2), ("Add", self.cards["d"]), ("", 2), (b"remove", 2),
            (0, 2), ("remove", True), ("remove", "2"), ("remove", None), ("remove", (2,)), ("remove", -1), ("remove", 4),
            ("remove", 10 ** 39), ("add",), ("add", -1), ("add", 10 ** 39), ("add", None), ("add", True), ("add", "0"),
            ("add", [0]), ("add", len(self.world.post())), ("remove", deep(38)), deep(39), (None, None), (("remove", 2),),
        ):
            self.bad(2, right + (wish,))
            self.bad(0, (wish,) + right)
            self.bad(0, (wish, wish))

    def test_cards_that_are_none(self):
        post = self.world.post()
        for number in [number for number in range(len(post)) if number not in self.cards.values()]:
            if self.world.book_now().kind(post[number]) != "mark":
                self.bad(0, (("add", number),))

    def test_made_up_cards(self):
        world = self.world
        hand = Hand(world)
        world.steal("d")
        marks, one, two = world.held["d"].marks, world.fresh(), world.fresh()
        other = world.fresh()

        def wrong(card):
            # Only what was handed in has a number; so it is put there beside the deeds.
            world.posted.append(card)
            self.bad(0, (("add", len(world.posted) - 1),))

        wrong(hand.card(other, "d", one, two))
        wrong(hand.card(world.held["e"].marks, "d", one, two))
        wrong(hand.card(marks, "e", one, two))
        wrong(hand.card(marks, "z", one, two))
        wrong(hand.card(marks, "a", one, two))
        for content in (
            hand.row("card", "d", hand.lock(one)), hand.row("card", "d", hand.lock(one), hand.lock(two), one),
            hand.row("Card", "d", hand.lock(one), hand.lock(two)), hand.row("card", "d", one, hand.lock(two)),
            hand.row("card", "d", hand.lock(one), two), hand.row("card", one, hand.lock(one), hand.lock(two)),
            hand.row(one, "d", hand.lock(one), hand.lock(two)), hand.name("card"),
        ):
            wrong(hand.mark(marks, content))
        wrong(hand.row("card", "d", hand.lock(one), hand.lock(two)))
        right = hand.card(marks, "d", one, one)
        world.posted.append(right)
        self.assertEqual(len(world.change("a", "r", (("add", len(world.posted) - 1),))), 2)

    def test_a_term_s_number_is_no_leaf(self):
        tree = self.world.view("a", "r")[2]
        self.assertEqual(removals(tree, 0, (("add", 1), ("remove", 2), None, ("add", 2))), ({2: True}, {1: True}))

    def test_names_that_are_there(self):
        cards = self.cards
        for name in "abc":
            self.bad(0, (("add", cards[name]),))
        self.bad(1, (("add", cards["d"]), ("add", cards["d"])))
        self.bad(1, (("add", cards["d"]), ("add", self.world.card("d"))))
        # Whoever is removed, ahead or behind, is not there when cards are taken.
        self.assertEqual(len(self.world.change("a", "r", (("add", cards["b"]), ("remove", 1)))), 2)
        self.assertEqual(len(self.world.change("a", "r", (("remove", 1), ("add", cards["b"])))), 2)
        self.bad(1, (("remove", 1), ("add", cards["c"])))
        self.bad(2, (("remove", 1), ("add", cards["b"]), ("add", self.world.card("b"))))
        # A removal that is not right removes nobody.
        self.bad(0, (("add", cards["a"]), ("remove", 0)))

    def test_leaves(self):
        self.bad(0, (("remove", 0),))
        self.bad(0, (("remove", 3),))
        self.bad(1, (("remove", 1), ("remove", 1)))
        self.bad(2, (("remove", 1), ("remove", 2), ("remove", 1), ("remove", 0)))
        # A leaf that is blank in T stays so for this, whoever is added there.
        self.bad(1, (("add", self.cards["d"]), ("remove", 3)))

    def test_the_place_of_the_first(self):
        self.bad(1, (("remove", 1), ("remove", 0), ("remove", 3), ("add", -1)))
        self.bad(0, (("add", self.cards["c"]), None))
        self.bad(1, (("add", self.cards["d"]), ("remove", 1, 1), ("remove", 0)))

    def test_right_ones(self):
        wishes = (("add", self.cards["e"]), ("remove", 2), ("add", self.cards["d"]), ("remove", 1), ("add", self.cards["b"]))
        count = len(self.world.post())
        self.assertEqual(self.world.change("a", "r", wishes), tuple(range(count, count + 4)))
        handed(self.world, range(count, count + 4))
        leaves = self.world.view("a", "r")[2].leaves
        self.assertEqual([leaf[0] for leaf in leaves], ["a", "e", "d", "b"])
        self.assertEqual([self.world.rooms(name) for name in "abcde"], [["r"], ["r"], [], ["r"], ["r"]])

    def test_the_stranger_s_errors_come_last(self):
        self.refuses(Unknown, self.world, self.world.change_as, "a", "r", (("remove", 1),))
        self.bad(0, (("remove", 0),), self.world.change_as)


class DeedsTest(WorldCase):

    def test_numbers_of_the_post(self):
        world = World(("a", "b"), 1, 1)
        self.assertEqual(world.card("a"), 0)
        self.assertEqual(world.found("b", "r"), 1)
        self.assertEqual(world.change("b", "r", (("add", 0),)), (2, 3))
        number, words = world.write("b", "r", None)
        self.assertEqual((number, world.book_now().kind(words)), (4, "fresh"))
        self.assertEqual(len(world.post()), 5)
        self.assertFalse(world.knows(words))
        self.assertEqual(world.change("b", "r", ()), (5,))

    def test_a_change_in_the_place_of_a_pending_one(self):
        world = room_of("ab")
        (first,) = world.change("a", "r", ())
        start = world.held["a"].joined["r"].pending[1]
        (second,) = world.change("a", "r", ())
        self.assertNotIn(start, world.store("a"))
        self.assertEqual(handed(world, (first,), "a"), [("refused", "box")])
        self.assertEqual(handed(world, (second,), "a", "b"), [("changed", "r", 2)] * 2)
        self.assertIsNone(world.held["a"].joined["r"].pending)

    def test_a_fork(self):
        world = room_of("abc")
        (first,) = world.change("a", "r", ())
        (second,) = world.change("b", "r", ())
        self.assertEqual(handed(world, (first,), "a", "c"), [("changed", "r", 3)] * 2)
        self.assertEqual(handed(world, (second,), "b"), [("changed", "r", 3)])
        self.assertEqual(handed(world, (second,), "a", "b", "c"), [
            ("refused", "fork"), ("refused", "old"), ("refused", "fork")])
        self.assertEqual(handed(world, (first,), "a", "b", "c"), [
            ("refused", "old"), ("refused", "fork"), ("refused", "old")])
        number = world.write("a", "r", None)[0]
        self.assertEqual(handed(world, (number,), "b"), [("refused", "unlike")])

    def test_leaving(self):
        world = room_of("ab")
        world.found("a", "s")
        self.assertIsNone(world.leave("a", "r"))
        self.assertEqual((world.rooms("a"), world.rooms("b")), (["s"], ["r"]))
        self.refuses(NoRoom, world, world.leave, "a", "r")
        world.leave("a", "s")
        self.assertEqual(world.store("a"), (world.held["a"].marks,))
        # What is handed to it is of no room of its own then, even what it made itself.
        (number,) = world.change("b", "r", ())
        self.assertEqual(world.hand(number, "a"), ("refused", "unlike"))

    def test_two_rooms_of_one_name(self):
        world = World(("a", "b"), 2, 1)
        world.found("a", "r")
        world.found("b", "r")
        self.assertNotEqual(world.view("a", "r")[1], world.view("b", "r")[1])
        numbers = world.change("a", "r", (("add", world.card("b")),))
        self.assertEqual(handed(world, numbers, "a", "b"), [
            ("changed", "r", 1), ("refused", "unlike"), ("refused", "unlike"), ("refused", "room")])
        world.leave("b", "r")
        self.assertEqual(world.hand(numbers[1], "b"), ("entered", "r", 1))

    def test_a_room_left_and_entered_again(self):
        world = room_of("ab")
        handed(world, world.change("a", "r", ()))
        world.leave("b", "r")
        self.refuses(BadWish, world, world.change, "a", "r", (("add", world.card("b")),))
        numbers = world.change("a", "r", (("remove", 1), ("add", len(world.post()) - 1)))
        self.assertEqual(handed(world, numbers), [
            ("changed", "r", 3), ("refused", "unlike"), ("refused", "unlike"), ("entered", "r", 3)])
        # It remembers nothing of the epochs ahead.
        self.assertEqual(len(world.held["b"].joined["r"].been), 1)
        self.assertEqual(world.hand(numbers[0], "b"), ("refused", "unlike"))

    def test_thefts(self):
        world = room_of("ab")
        bag, store = world.bag(), world.store("b")
        self.assertEqual(store, tuple(sorted(store)))
        self.assertEqual(world.steal("b"), store)
        self.assertEqual(world.bag(), sorted(set(bag) | set(store)))
        self.assertEqual(world.store("b"), store)
        for term in store:
            self.assertTrue(world.knows(term))
        self.assertFalse(world.knows(world.held["a"].marks))

    def test_what_the_bag_has(self):
        world = room_of("ab")
        hand = Hand(world)
        own = world.fresh()
        term = hand.row(own, world.post()[0])
        locks = [hand.lock(world.held[name].marks) for name in "ab"]
        self.assertEqual(world.bag(), sorted(set(world.post() + locks + [own])))
        self.assertNotIn(term, world.bag())
        self.assertEqual(world.hand_term(term, "a"), ("refused", "unlike"))
        self.assertIn(term, world.bag())

    def test_view_and_lists_are_new(self):
        world = room_of("ab")
        number, context, tree, seal, leaf = world.view("b", "r")
        self.assertEqual((number, tree.__class__, leaf), (1, Tree, 1))
        self.assertEqual([one[0] for one in tree.leaves], ["a", "b"])
        before = state(world)
        for told in (world.post(), world.bag(), world.rooms("a")):
            told.append(0)
        world.book_now().fresh()
        self.assertEqual(state(world), before)
        self.assertTrue(world.book_now() == world.book_now())

    def test_stores_ahead_of_and_behind_each_deed(self):
        world = room_of("ab", 2, 0)
        one = set(world.store("a"))
        room = world.held["a"].joined["r"]
        number, words = world.write("a", "r", None)
        hand = Hand(world)
        turn = room.epochs[-1].turns[0][1]
        two = set(world.store("a"))
        gone = one - two
        self.assertEqual((two - one, len(gone)), ({turn}, 1))
        self.assertEqual(turn, hand.made("next", gone.pop()))
        world.hand(number, "b")
        self.assertIn(turn, world.store("b"))
        (change,) = world.change("b", "r", ())
        self.assertEqual(set(world.store("a")), two)
        world.hand(change, "a")
        three = set(world.store("a"))
        # Of the epoch ahead nothing is left where no epoch is kept; the leaf's key stays.
        left = {world.held["a"].marks, room.held[(0, 0)]}
        self.assertEqual(two & three, left)


class StrangersDeedsTest(WorldCase):

    def test_without_a_theft(self):
        world = room_of("ab")
        for call, rest in (
            (world.card_as, ()), (world.change_as, ("r", ())), (world.write_as, ("r", None)), (world.write_as, ("r", "x")),
        ):
            self.refuses(Unknown, world, call, "a", *rest)

    def test_a_theft_of_another_one(self):
        world = room_of("ab")
        world.steal("b")
        self.refuses(Unknown, world, world.card_as, "a")
        self.refuses(Unknown, world, world.change_as, "a", "r", ())
        self.refuses(Unknown, world, world.write_as, "a", "r", None)

    def test_card_as(self):
        world = room_of("ab")
        world.steal("b")
        store = world.store("b")
        number = world.card_as("b")
        book = world.book_now()
        parts = book.parts(book.parts(world.post()[number])[1])
        key, entry = [book.parts(lock)[0] for lock in parts[2:]]
        self.assertEqual(world.post()[number], Hand(world).card(world.held["b"].marks, "b", key, entry))
        self.assertEqual([book.kind(key), book.kind(entry)], ["fresh", "fresh"])
        self.assertTrue({key, entry} <= set(world.bag()))
        self.assertEqual((world.store("b"), world.held["b"].cards), (store, []))

    def test_change_as(self):
        world = room_of("abc")
        card = world.card("c")
        world.steal("b")
        stores = [world.store(name) for name in "abc"]
        numbers = world.change_as("b", "r", (("remove", 2), ("add", card)))
        self.assertEqual([world.store(name) for name in "abc"], stores)
        self.assertIsNone(world.held["b"].joined["r"].pending)
        self.assertEqual(handed(world, numbers, "a", "b", "c"), [
            ("changed", "r", 3), ("refused", "box"), ("out", "r"),
            ("refused", "unlike"), ("refused", "unlike"), ("entered", "r", 3)])
        self.assertTrue(world.knows(world.view("a", "r")[3]))

    def test_change_as_needs_what_is_there_now(self):
        world = room_of("abc")
        world.steal("b")
        handed(world, world.change("c", "r", ()))
        world.change_as("b", "r", ())
        handed(world, world.change("b", "r", ()))
        self.refuses(Unknown, world, world.change_as, "b", "r", ())
        self.refuses(Unknown, world, world.write_as, "b", "r", None)
        world.card_as("b")

    def test_write_as(self):
        world = room_of("abc")
        world.write("b", "r", "one")
        world.steal("b")
        store = world.store("b")
        number, words = world.write_as("b", "r", None)
        self.assertEqual((world.book_now().kind(words), words in world.bag(), world.store("b")), ("fresh", True, store))
        self.assertEqual(handed(world, (number,), "a", "c"), [("words", "r", 1, words)] * 2)
        hand = Hand(world)
        label = hand.print(world.view("b", "r")[1])
        turn = world.held["b"].joined["r"].own().turns[1][1]
        letter = hand.letter(label, 1, 1, hand.made("key", turn), world.held["b"].marks, words)
        self.assertEqual(world.post()[number], letter)
        second, text = world.write_as("b", "r", "text")
        self.assertEqual(world.book_now().parts(text), ("text",))
        self.assertEqual(handed(world, (second,), "a", "b", "a"), [("refused", "gone"), ("words", "r", 1, text)] + [
            ("refused", "gone")])

    def test_write_as_with_the_key_alone(self):
        world = room_of("ab")
        turn = world.held["b"].joined["r"].own().turns[1][1]
        # No theft tells so little; so the stranger learns it otherwise here.
        world.knower.learn(world.held["b"].marks)
        self.refuses(Unknown, world, world.write_as, "b", "r", None)
        hand = Hand(world)
        hand.made("key", world.fresh())
        self.refuses(Unknown, world, world.write_as, "b", "r", None)
        key = hand.made("key", turn)
        self.refuses(Unknown, world, world.write_as, "b", "r", None)
        world.knower.learn(key)
        self.assertFalse(world.knows(turn))
        number, words = world.write_as("b", "r", None)
        self.assertEqual(world.hand(number, "a"), ("words", "r", 1, words))

    def test_handing_what_is_made_up(self):
        world = room_of("ab")
        secret = world.put("row", (world.held["a"].joined["r"].seal,))
        self.refuses(Unknown, world, world.hand_term, secret, "b")
        world.steal("a")
        self.assertEqual(world.hand_term(secret, "b"), ("refused", "unlike"))
        self.assertIn(secret, world.bag())


class CopyTest(WorldCase):

    def test_copies_go_on_apart(self):
        for seed in range(25):
            one = History(random.Random(seed), ("a", "b", "c"), seed % 2 == 0)
            one.go(40)
            other = one.world.copy()
            before = state(one.world)
            self.assertEqual(state(other), before)
            two = History(random.Random(seed + 1000), ("a", "b", "c"), True)
            two.world = other
            two.go(30)
            self.assertEqual(state(one.world), before)
            after = state(other)
            apart = other.copy()
            one.go(30)
            self.assertEqual(state(other), after)
            # The same deeds behind the copy tell the same.
            self.assertEqual(state(apart), after)
            for world in (other, apart):
                again = History(random.Random(7), ("a", "b", "c"), False)
                again.world = world
                again.go(20)
            self.assertEqual(state(other), state(apart))

    def test_what_is_held_fits_together(self):
        # Errors of other kinds would come through: History catches those of the package alone.
        for seed in range(60):
            history = History(random.Random(seed), ("a", "b", "c"), seed % 3 > 0)
            for _ in range(8):
                self.assertTrue(sound(history.go(10)))


if __name__ == "__main__":
    unittest.main()
