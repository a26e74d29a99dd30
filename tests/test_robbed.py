import itertools
import unittest

from strangerspost.errors import BadWish, NoEpoch, NoName, NoRoom, NoTerm, NoWords, PostError, Unknown
from strangerspost.images import restored, world_image
from strangerspost.worldrules import can_lead, hangs, known, names, reach, rule_of, seen_words, term_of, would_bar
from tests.worlds import handed, room_of


class RobbedCase(unittest.TestCase):
    """What the stranger does in the name of a member whose store it has, and what comes of it."""

    def setUp(self):
        self.world = room_of("abc")
        self.epoch = 2
        self.world.steal("b")

    def refused(self, error, call, *given):
        """A call raises just this error, and the world's image is as it was."""
        before = world_image(self.world)
        with self.assertRaises(PostError) as caught:
            call(*given)
        self.assertIs(caught.exception.__class__, error)
        self.assertEqual(world_image(self.world), before)

    def asked(self, call, *given):
        """What a question tells, by which the world's image is as it was."""
        before = world_image(self.world)
        answer = call(self.world, *given)
        self.assertEqual(world_image(self.world), before)
        self.assertEqual(call(restored(before), *given), answer)
        return answer

    def number(self, name):
        return self.world.view(name, "r")[0]


class LeadTest(RobbedCase):

    def test_whom_it_can_lead_as(self):
        count = len(self.world.ledger.sealed)
        self.assertEqual(count, 3)
        # The store has chain and seal of the own epoch alone.
        led = [(name, e) for name in "abc" for e in range(count) if self.asked(can_lead, name, e)]
        self.assertEqual(led, [("b", 2)])
        self.refused(NoName, can_lead, self.world, "d", 0)
        self.refused(NoName, can_lead, self.world, "d", 9)
        self.refused(NoEpoch, can_lead, self.world, "b", count)

    def test_behind_its_next_change(self):
        world = self.world
        handed(world, world.change("a", "r", ()))
        # A change of another one is read with what was stolen.
        self.assertTrue(self.asked(can_lead, "b", 3))
        self.assertFalse(self.asked(can_lead, "a", 3))
        handed(world, world.change("b", "r", ()))
        self.assertEqual([self.number(name) for name in "abc"], [4, 4, 4])
        self.assertEqual([self.asked(can_lead, "b", e) for e in range(5)], [False, False, True, True, False])
        self.refused(Unknown, world.change_as, "b", "r", ())
        self.refused(Unknown, world.write_as, "b", "r", "lie")
        # Its marks' key stays known.
        world.card_as("b")
        world.steal("c")
        self.assertEqual([self.asked(can_lead, "c", e) for e in range(5)], [False, False, True, True, True])
        self.assertEqual([self.asked(can_lead, "b", e) for e in range(5)], [False, False, True, True, True])

    def test_its_own_change_is_pending(self):
        world = self.world
        numbers = world.change("b", "r", ())
        self.assertFalse(self.asked(can_lead, "b", 3))
        world.steal("b")
        # p(0) of the pending change was stolen with it.
        self.assertTrue(self.asked(can_lead, "b", 3))
        self.assertFalse(self.asked(can_lead, "c", 3))
        self.refused(Unknown, world.change_as, "a", "r", ())
        self.assertEqual(handed(world, numbers, "a"), [("changed", "r", 3)])

    def test_all_that_is_asked(self):
        world = self.world
        world.write("a", "r", None)
        world.change_as("b", "r", ())
        for call in (names, known, rule_of, seen_words):
            self.asked(call)
        for name in names(world)[::5]:
            for call in (term_of, hangs, would_bar):
                self.asked(call, name)
        # Of epoch 1 the store keeps turns.
        self.assertEqual(self.asked(reach, 0), [1, 2, 3])
        self.assertEqual(self.asked(lambda one: [one.store(name) for name in "abc"]), [world.store(name) for name in "abc"])
        for call in (
            lambda one: one.view("b", "r")[:2], lambda one: one.rooms("b"), lambda one: (one.post(), one.bag()),
            lambda one: one.book_now().size(), lambda one: [one.knows(term) for term in range(one.book_now().size())],
            lambda one: world_image(one.copy()),
        ):
            self.asked(call)


class NamesTest(RobbedCase):

    def test_in_the_name_of_others(self):
        world = self.world
        for name in "ac":
            self.refused(Unknown, world.card_as, name)
            self.refused(Unknown, world.change_as, name, "r", ())
            self.refused(Unknown, world.write_as, name, "r", None)
            self.refused(Unknown, world.write_as, name, "r", "lie")

    def test_errors_in_their_order(self):
        world = self.world
        for call in (world.change_as, world.write_as):
            self.refused(NoName, call, "d", "q", 0)
            self.refused(NoRoom, call, "a", "q", 0)
        self.refused(BadWish, world.change_as, "a", "r", 0)
        self.refused(BadWish, world.change_as, "a", "r", (("remove", 7),))
        self.refused(NoWords, world.write_as, "a", "r", 0)
        self.refused(NoWords, world.write_as, "b", "r", "x" * 41)
        self.refused(NoName, world.card_as, "d")
        self.refused(NoName, world.hand_term, 10 ** 9, "d")
        self.refused(NoTerm, world.hand_term, 10 ** 9, "a")
        self.refused(Unknown, world.hand_term, world.store("a")[0], "a")

    def test_cards(self):
        world = self.world
        number = world.card_as("b")
        self.assertEqual(world.held["b"].cards, [])
        self.assertNotIn(world.post()[number], world.store("b"))
        # Others take it for a card of b: a change that adds b by it is refused only as b is there.
        self.refused(BadWish, world.change, "a", "r", (("add", number),))
        world.found("c", "q")
        numbers = world.change("c", "q", (("add", number),))
        self.assertEqual(handed(world, numbers[:1], "c"), [("changed", "q", 1)])
        # It has not got the entry's key, but the stranger has.
        self.assertEqual(handed(world, numbers[1:], "b"), [("refused", "unlike")])
        letter, words = world.write("c", "q", None)
        self.assertTrue(world.knows(words))
        self.assertEqual(seen_words(world), [0])


class LettersTest(RobbedCase):

    def test_words_in_its_name(self):
        world = self.world
        before = world.store("b")
        lie, term = world.write_as("b", "r", "lie")
        self.assertEqual(world.store("b"), before)
        true, words = world.write("b", "r", None)
        # Both are letter 0 of its leaf: just one of them is opened by each, whichever comes first.
        self.assertEqual(handed(world, (lie, true), "a"), [("words", "r", 1, term), ("refused", "gone")])
        self.assertEqual(handed(world, (true, lie), "c"), [("words", "r", 1, words), ("refused", "gone")])
        self.assertEqual(handed(world, (lie, true), "b"), [("refused", "gone"), ("refused", "gone")])
        # Behind it the stranger writes letter 1.
        other, term = world.write_as("b", "r", None)
        self.assertEqual(handed(world, (other, other), "a", "c"), [("words", "r", 1, term)] * 2 + [("refused", "gone")] * 2)
        self.assertEqual(handed(world, (other,), "b"), [("words", "r", 1, term)])
        self.assertTrue(world.knows(term))
        self.assertEqual(seen_words(world), [1, 2])

    def test_letters_at_an_elder_epoch(self):
        world = self.world
        lie, term = world.write_as("b", "r", "lie")
        numbers = world.change("a", "r", ())
        handed(world, numbers, "a", "c")
        # b lags behind: what is written in its name is of its own epoch, which the others keep.
        other, text = world.write_as("b", "r", "more")
        self.assertEqual(handed(world, (other, lie), "a"), [("words", "r", 1, text), ("refused", "gone")])
        handed(world, world.change("a", "r", ()), "a", "c")
        self.assertEqual(handed(world, (lie, other), "c"), [("refused", "unlike")] * 2)
        self.assertEqual(handed(world, (lie,), "b"), [("words", "r", 1, term)])

    def test_far_and_by_a_wrong_key(self):
        world = self.world
        for _ in range(4):
            number = world.write("b", "r", None)[0]
        self.assertEqual(handed(world, (number,), "a"), [("refused", "far")])
        lie = world.write_as("b", "r", None)[0]
        self.assertEqual(handed(world, (lie, number - 1), "a")[0], ("refused", "far"))
        self.assertEqual(handed(world, (number, lie), "a")[0][0], "words")


class ChangesTest(RobbedCase):

    def test_a_change_in_its_name(self):
        for order in itertools.permutations("abc"):
            self.setUp()
            world = self.world
            before = world.store("b")
            number, = world.change_as("b", "r", ())
            self.assertEqual(world.store("b"), before)
            told = {name: world.hand(number, name) for name in order}
            self.assertEqual(told, {"a": ("changed", "r", 3), "b": ("refused", "box"), "c": ("changed", "r", 3)})
            self.assertTrue(self.asked(can_lead, "b", 3))
            # b is alone now: the others see its next change, and it theirs, as of another side.
            own, = world.change("b", "r", ())
            self.assertEqual(handed(world, (own,), "a", "c"), [("refused", "fork")] * 2)
            self.assertEqual(world.hand(own, "b"), ("changed", "r", 3))
            theirs, = world.change("a", "r", ())
            self.assertEqual(world.hand(theirs, "b"), ("refused", "unlike"))
            self.assertEqual(world.hand(number, "b"), ("refused", "fork"))
            self.assertEqual(handed(world, (number, theirs), "c"), [("refused", "old"), ("changed", "r", 4)])
            letter, words = world.write("a", "r", None)
            self.assertEqual(handed(world, (letter,), "b"), [("refused", "unlike")])
            # The stranger has b's place among the others, whose changes are boxed to the keys that it made.
            self.assertEqual((self.asked(can_lead, "b", 3), self.asked(can_lead, "a", 3)), (True, False))
            self.assertTrue(world.knows(words))
            self.refused(Unknown, world.change_as, "b", "r", ())

    def test_ahead_of_its_own_change(self):
        world = self.world
        own, = world.change("b", "r", ())
        made, = world.change_as("b", "r", (("remove", 2),))
        told = [handed(world, (made, own), "a"), handed(world, (own, made), "b"), handed(world, (made, own), "c")]
        self.assertEqual(told, [
            [("changed", "r", 3), ("refused", "fork")], [("changed", "r", 3), ("refused", "fork")],
            [("out", "r"), ("refused", "unlike")],
        ])
        self.assertEqual(world.rooms("c"), [])

    def test_behind_its_own_change(self):
        world = self.world
        made, = world.change_as("b", "r", ())
        own, = world.change("b", "r", ())
        handed(world, (own,))
        self.assertEqual([self.number(name) for name in "abc"], [3, 3, 3])
        self.assertEqual(handed(world, (made,)), [("refused", "fork")] * 3)
        self.refused(Unknown, world.change_as, "b", "r", ())

    def test_it_adds_whom_it_likes(self):
        world = self.world
        card = world.card_as("b")
        self.refused(BadWish, world.change_as, "b", "r", (("add", card),))
        self.refused(BadWish, world.change_as, "b", "r", (("remove", 1),))
        numbers = world.change_as("b", "r", (("remove", 0),))
        self.assertEqual(handed(world, numbers), [("out", "r"), ("refused", "box"), ("changed", "r", 3)])
        again = world.change("c", "r", (("remove", 1), ("add", card)))
        self.assertEqual(handed(world, again[:1], "c"), [("changed", "r", 4)])
        letter, words = world.write("c", "r", None)
        self.assertTrue(world.knows(words))
        self.assertEqual(handed(world, again, "b"), [("refused", "unlike")] * 2)

    def test_made_up_by_hand_of_an_elder_view(self):
        # The view is that of the member as it is: behind a change that it took another one is made.
        world = self.world
        handed(world, world.change("a", "r", ()))
        number, = world.change_as("b", "r", ())
        self.assertEqual(handed(world, (number,)), [("changed", "r", 4), ("refused", "box"), ("changed", "r", 4)])
        self.assertEqual(self.asked(reach, 0), [1, 2, 3, 4])

    def test_without_the_tree(self):
        # Of an epoch that a theft did not reach it may have marks and chain, but not what is told by the tree.
        world = self.world
        handed(world, world.change("b", "r", ()))
        world.steal("b")
        self.assertTrue(self.asked(can_lead, "b", 3))
        self.assertEqual(handed(world, world.change_as("b", "r", ()), "a"), [("changed", "r", 4)])
        self.assertEqual(len(hangs(world, ("seal", 3))), 1)
        self.assertEqual(self.asked(hangs, ("seal", 3)), [(1,)])


class AllOrdersTest(RobbedCase):

    def test_whatever_the_order(self):
        # Letters and changes of both are handed in each order: it is restored alike, and goes on alike.
        world = self.world
        numbers = [world.write_as("b", "r", "lie")[0], world.write("b", "r", "true")[0]]
        numbers += world.change_as("b", "r", ()) + world.change("b", "r", ())
        start = world_image(world)
        seen = set()
        for order in itertools.permutations(numbers):
            one = restored(start)
            told = [handed(one, order, name) for name in "abc"]
            other = restored(start)
            again = []
            for name in "abc":
                other = restored(world_image(other))
                again.append(handed(other, order, name))
            self.assertEqual(told, again)
            self.assertEqual(world_image(one), world_image(other))
            seen.update([what[1] for rows in told for what in rows if what[0] == "refused"])
        self.assertEqual(seen, {"gone", "fork", "box"})


if __name__ == "__main__":
    unittest.main()
