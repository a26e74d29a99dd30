import random
import unittest

from strangerspost.world import World
from tests.histories import History
from tests.worlds import Hand, WorldCase, handed, room_of

UNLIKE = ("refused", "unlike")


class LettersCase(WorldCase):

    def epoch_key(self, world, member, room):
        """The epoch key of which a member's seal is made."""
        book = world.book_now()
        return book.parts(world.view(member, room)[3])[1]

    def turns(self, world, member, room="r", back=1):
        return world.held[member].joined[room].epochs[-back].turns

    def kept(self, world, member, leaf, room="r", back=1):
        return world.held[member].joined[room].epochs[-back].kept[leaf]


class WritingTest(LettersCase):

    def test_letters_by_hand(self):
        world = room_of("ab")
        hand, key = Hand(world), self.epoch_key(world, "a", "r")
        label = hand.print(world.view("a", "r")[1])
        for place, words in enumerate((None, "hello", None, "")):
            number, term = world.write("b", "r", words)
            letter = hand.letter(label, 1, place, hand.made("key", hand.turn(1, place, key)), world.held["b"].marks, term)
            self.assertEqual(world.post()[number], letter)
            self.assertEqual(self.turns(world, "b")[1], (place + 1, hand.turn(1, place + 1, key)))
            self.assertEqual(self.turns(world, "b")[0], (0, hand.turn(0, 0, key)))
            self.assertEqual(self.kept(world, "b", 1), {})
            self.assertEqual(world.hand(number, "a"), ("words", "r", 1, term))
            self.assertEqual(self.turns(world, "a")[1], (place + 1, hand.turn(1, place + 1, key)))
            self.assertEqual(world.hand(number, "a"), ("refused", "gone"))

    def test_the_writer_s_own_letters(self):
        world = room_of("ab")
        numbers = [world.write("a", "r", None)[0] for _ in range(2)]
        self.assertEqual(handed(world, numbers, "a"), [("refused", "gone")] * 2)

    def test_words_that_are_fresh_and_words_that_are_a_text(self):
        world = room_of("ab")
        one, two = world.write("a", "r", None)[1], world.write("a", "r", None)[1]
        self.assertNotEqual(one, two)
        three, four = world.write("a", "r", "x")[1], world.write("a", "r", "x")[1]
        self.assertEqual((three, world.book_now().kind(three)), (four, "name"))

    def test_a_room_of_one(self):
        world = World(("a",), 2, 1)
        world.found("a", "r")
        number = world.write("a", "r", None)[0]
        self.assertEqual(world.hand(number, "a"), ("refused", "gone"))


class OrderTest(LettersCase):

    def test_late_twice_and_in_another_order(self):
        world = room_of("abc", 3, 1)
        told = [world.write("a", "r", None) for _ in range(4)]
        numbers = [number for number, words in told]
        words = [("words", "r", 0, term) for number, term in told]
        hand, key = Hand(world), self.epoch_key(world, "a", "r")
        self.assertEqual(world.hand(numbers[2], "b"), words[2])
        self.assertEqual(self.turns(world, "b")[0], (3, hand.turn(0, 3, key)))
        self.assertEqual(self.kept(world, "b", 0), {place: hand.made("key", hand.turn(0, place, key)) for place in (0, 1)})
        for term in self.kept(world, "b", 0).values():
            self.assertIn(term, world.store("b"))
        self.assertNotIn(hand.turn(0, 0, key), world.store("b"))
        self.assertEqual(world.hand(numbers[2], "b"), ("refused", "gone"))
        self.assertEqual(world.hand(numbers[0], "b"), words[0])
        self.assertEqual(list(self.kept(world, "b", 0)), [1])
        self.assertEqual(world.hand(numbers[0], "b"), ("refused", "gone"))
        self.assertEqual(world.hand(numbers[3], "b"), words[3])
        self.assertEqual(world.hand(numbers[1], "b"), words[1])
        self.assertEqual(self.kept(world, "b", 0), {})
        # c takes them one behind another.
        self.assertEqual(handed(world, numbers, "c"), words)
        self.assertEqual(handed(world, numbers, "c"), [("refused", "gone")] * 4)

    def test_the_window(self):
        for window in (0, 1, 3, 50):
            world = room_of("ab", window, 0)
            numbers = [world.write("a", "r", None)[0] for _ in range(window + 3)]
            self.assertEqual(world.hand(numbers[window + 1], "b"), ("refused", "far"))
            self.assertEqual(self.turns(world, "b")[0][0], 0)
            self.assertEqual(world.hand(numbers[window], "b")[0], "words")
            self.assertEqual(len(self.kept(world, "b", 0)), window)
            self.assertEqual(world.hand(numbers[window + 1], "b")[0], "words")
            self.assertEqual(len(self.kept(world, "b", 0)), window)
            self.assertEqual(world.hand(numbers[window + 2], "b")[0], "words")
            if window:
                self.assertEqual(world.hand(numbers[0], "b")[0], "words")

    def test_kept_keys_go_on_beyond_the_window(self):
        world = room_of("ab", 2, 0)
        numbers = [world.write("a", "r", None)[0] for _ in range(9)]
        for number in numbers[2::3]:
            self.assertEqual(world.hand(number, "b")[0], "words")
        self.assertEqual(sorted(self.kept(world, "b", 0)), [0, 1, 3, 4, 6, 7])

    def test_leaves_by_themselves(self):
        world = room_of("abc", 1, 0)
        one, two = [world.write(name, "r", None)[0] for name in "ab"]
        self.assertEqual(world.hand(one, "c")[:3], ("words", "r", 0))
        self.assertEqual(world.hand(two, "c")[:3], ("words", "r", 1))
        self.assertEqual([place for place, turn in self.turns(world, "c").values()], [1, 1, 0])


class EpochsTest(LettersCase):

    def test_kept_epochs(self):
        for keep in (0, 1, 2, 5):
            world = room_of("ab", 2, keep)
            numbers = []
            for _ in range(4):
                numbers.append(world.write("a", "r", None)[0])
                handed(world, world.change("b", "r", ()))
            self.assertEqual(len(world.held["b"].joined["r"].epochs), min(keep + 1, 5))
            self.assertEqual(len(world.held["a"].joined["r"].epochs), min(keep + 1, 6))
            told = [world.hand(number, "b")[0:2] for number in numbers]
            gone = max(0, 4 - keep)
            self.assertEqual(told, [UNLIKE] * gone + [("words", "r")] * (4 - gone))

    def test_what_is_held_of_elder_epochs(self):
        world = room_of("ab", 2, 1)
        room = world.held["b"].joined["r"]
        number, context, tree, seal, leaf = world.view("b", "r")
        chain, elder = room.chain, room.own()
        number = world.write("a", "r", None)[0]
        world.write("a", "r", None)
        later = world.write("a", "r", None)[0]
        handed(world, world.change("a", "r", ()))
        store = world.store("b")
        self.assertEqual(world.hand(later, "b")[0], "words")
        self.assertEqual(len(self.kept(world, "b", 0, back=2)), 2)
        for term in (context, elder.tree, elder.turns[0][1]) + tuple(self.kept(world, "b", 0, back=2).values()):
            self.assertIn(term, world.store("b"))
        for term in (seal, chain):
            self.assertNotIn(term, store)
        self.assertEqual(world.hand(number, "b")[0], "words")
        handed(world, world.change("a", "r", ()))
        for term in (context, elder.tree, elder.turns[0][1]):
            self.assertNotIn(term, world.store("b"))
        self.assertEqual(world.hand(number, "b"), UNLIKE)

    def test_letters_of_another_epoch_and_room(self):
        world = room_of("abc", 2, 0)
        number = world.write("a", "r", None)[0]
        handed(world, world.change("b", "r", ()))
        self.assertEqual(handed(world, (number,)), [UNLIKE] * 3)
        world.found("a", "s")
        other = world.write("a", "s", None)[0]
        self.assertEqual(handed(world, (other,)), [("refused", "gone"), UNLIKE, UNLIKE])
        world.leave("b", "r")
        last = world.write("a", "r", None)[0]
        self.assertEqual(world.hand(last, "b"), UNLIKE)

    def test_a_letter_opened_before_the_change_that_adds(self):
        world = room_of("ab")
        number, words = world.write("a", "r", None)
        handed(world, world.change("b", "r", ()), "b")
        # a is still at the epoch ahead, b keeps it.
        self.assertEqual(world.hand(number, "b"), ("words", "r", 0, words))
        second = world.write("b", "r", None)[0]
        self.assertEqual(world.hand(second, "a"), UNLIKE)


class MadeUpTest(LettersCase):

    def setUp(self):
        self.world = room_of("abc", 2, 1)
        self.world.steal("c")
        self.hand = Hand(self.world)
        self.key = self.epoch_key(self.world, "a", "r")
        self.label = self.hand.print(self.world.view("a", "r")[1])
        self.words = self.world.fresh()

    def letter(self, leaf, place, marks, key=None):
        right = self.hand.made("key", self.hand.turn(leaf, place, self.key))
        return self.hand.letter(self.label, leaf, place, right if key is None else key, marks, self.words)

    def comes(self, answer, term, name="a"):
        before = self.world.store(name)
        self.assertEqual(self.world.hand_term(term, name), answer)
        if answer[0] == "refused":
            self.assertEqual(self.world.store(name), before)

    def test_the_right_one(self):
        marks = self.world.held["c"].marks
        self.comes(("words", "r", 2, self.words), self.letter(2, 1, marks))
        self.comes(("words", "r", 2, self.words), self.letter(2, 0, marks))
        self.comes(("refused", "gone"), self.letter(2, 0, marks))
        self.comes(("refused", "far"), self.letter(2, 5, marks))
        self.comes(("words", "r", 2, self.words), self.letter(2, 4, marks))
        # The writer takes it, too, and its own turn goes on.
        self.comes(("words", "r", 2, self.words), self.letter(2, 0, marks), "c")
        self.assertEqual(self.turns(self.world, "c")[2][0], 1)

    def test_chest(self):
        marks = self.world.held["c"].marks
        for key in (self.world.fresh(), self.hand.turn(2, 0, self.key), self.hand.made("key", self.hand.turn(2, 1, self.key))):
            self.comes(("refused", "chest"), self.letter(2, 0, marks, key))
        self.comes(("refused", "chest"), self.letter(2, 1, marks, self.hand.made("key", self.hand.turn(1, 1, self.key))))
        self.comes(("words", "r", 2, self.words), self.letter(2, 1, marks))
        # So with a kept key.
        self.comes(("refused", "chest"), self.letter(2, 0, marks, self.world.fresh()))
        self.comes(("words", "r", 2, self.words), self.letter(2, 0, marks))

    def test_mark(self):
        world, hand = self.world, self.hand
        marks = world.held["c"].marks
        self.comes(("refused", "mark"), self.letter(2, 0, world.fresh()))
        self.comes(("refused", "mark"), self.letter(1, 0, marks))
        key = hand.made("key", hand.turn(2, 0, self.key))
        zero, two = hand.number(0), hand.number(2)
        contents = [
            hand.row("Words", self.label, two, zero, self.words), hand.row("words", self.words, two, zero, self.words),
            hand.row("words", self.label, zero, zero, self.words), hand.row("words", self.label, two, two, self.words),
            hand.row("words", self.label, two, zero), hand.row("words", self.label, two, zero, self.words, self.words),
            hand.row("words", self.label, hand.name("2"), zero, self.words), self.words,
        ]
        inside = [hand.mark(marks, content) for content in contents]
        inside += [hand.row("words", self.label, two, zero, self.words), self.words, hand.name("x")]
        for content in inside:
            self.comes(("refused", "mark"), hand.row("letter", self.label, two, zero, hand.chest(key, content)))
        self.comes(("words", "r", 2, self.words), self.letter(2, 0, marks))
        self.comes(("refused", "mark"), self.letter(2, 2, world.fresh()))
        self.assertEqual(self.turns(world, "a")[2][0], 1)

    def test_places_of_nobody(self):
        marks = self.world.held["c"].marks
        for leaf in (3, 4, 10 ** 11):
            self.comes(UNLIKE, self.letter(leaf, 0, marks, self.world.fresh()))

    def test_shapes(self):
        hand, world = self.hand, self.world
        marks = world.held["c"].marks
        letter = self.letter(2, 0, marks)
        right = list(world.book_now().parts(letter))
        chest = world.book_now().parts(right[4])
        for at, parts in {
            0: (hand.name("Letter"), self.words), 1: (self.words, world.view("a", "r")[1], hand.print(self.words)),
            2: (hand.name("2"), self.words, hand.row()), 3: (hand.name("0"), hand.row(hand.number(0))),
            4: (self.words, hand.box(*chest), hand.mark(*chest), hand.row(*chest), hand.box(hand.lock(chest[0]), chest[1])),
        }.items():
            for part in parts:
                self.comes(UNLIKE, hand.row(*right[:at], part, *right[at + 1:]))
        self.comes(UNLIKE, hand.row(*right[:4]))
        self.comes(UNLIKE, hand.row(*right, self.words))
        self.comes(UNLIKE, hand.print(hand.row(*right)))
        self.comes(("words", "r", 2, self.words), hand.row(*right))


class AgreementTest(LettersCase):

    def test_who_is_at_one_context_holds_one_room(self):
        for seed in range(80):
            history = History(random.Random(seed), ("a", "b", "c", "d"), False)
            written = {}
            for _ in range(60):
                history.deed()
                world = history.world
                name, told = history.told[-1]
                if name == "write" and isinstance(told, tuple):
                    book = world.book_now()
                    written[told[0]] = (book.parts(world.post()[told[0]])[1], told[1])
                self.agree(history.world)
            self.opened_as_written(history.world, written)

    def agree(self, world):
        there = {}
        for name in world.names:
            for room in world.rooms(name):
                held = world.held[name].joined[room]
                told = (world.view(name, room)[2:4], held.chain)
                for epoch in held.epochs:
                    for leaf, (place, turn) in epoch.turns.items():
                        self.same(there, (epoch.context, "turn", leaf, place), turn)
                        for at, key in epoch.kept[leaf].items():
                            self.same(there, (epoch.context, "key", leaf, at), key)
                self.same(there, (world.view(name, room)[1], "room"), (told[0][0].nodes, told[0][0].leaves, told[0][1], told[1]))

    def same(self, there, place, told):
        self.assertEqual(there.setdefault(place, told), told)

    def opened_as_written(self, world, written):
        for number, (label, words) in written.items():
            for name in world.names:
                apart = world.copy()
                told = apart.hand(number, name)
                if told[0] == "words":
                    self.assertEqual(told[3], words)
                    labels = [epoch.label for room in world.held[name].joined.values() for epoch in room.epochs]
                    self.assertIn(label, labels)


if __name__ == "__main__":
    unittest.main()
