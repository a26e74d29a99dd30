import inspect
import random
import unittest

from strangerspost import audits
from strangerspost.audits import behind, exposed, let_go, parted, readable, room_of as in_room, sides
from strangerspost.errors import NoName, NoRoom
from strangerspost.images import restored, world_image
from strangerspost.knowing import learner
from strangerspost.shapes import told_change, told_letter
from strangerspost.world import World
from tests.histories import History
from tests.worlds import NO_WORDS, Hand, WorldCase, handed, joined, room_of


class AuditCase(WorldCase):

    def asked(self, call, world, *given):
        """What an audit tells, by which nothing changes; a restored world tells it too."""
        before = world_image(world)
        told = call(world, *given)
        self.assertEqual(world_image(world), before)
        self.assertEqual(call(world, *given), told)
        self.assertEqual(call(restored(before), *given), told)
        return told

    def behind(self, world, name, room="r"):
        return self.asked(behind, world, name, room)

    def readable(self, world, name, room="r"):
        return self.asked(readable, world, name, room)


def lagging(chance, count):
    """A world with a room of four, some of whom lag behind others, or are on other sides."""
    world = room_of("abcd", chance.randrange(4), chance.randrange(3))
    for _ in range(count):
        name = chance.choice("abcd")
        if "r" not in world.rooms(name):
            continue
        handed_in, deed = (), chance.random()
        if deed < 0.5:
            removed = chance.randrange(4) if deed < 0.05 else None
            leaves = world.view(name, "r")[2].leaves
            right = removed is not None and leaves[removed] is not None and leaves[removed][0] != name
            handed_in = world.change(name, "r", (("remove", removed),) if right else ())
            if chance.random() < 0.7:
                handed(world, handed_in, name)
        elif deed < 0.8:
            handed_in = world.write(name, "r", None)[:1]
        elif deed < 0.85:
            world.steal(name)
            handed_in = world.write_as(name, "r", None)[:1] + world.change_as(name, "r", ())
        for number in handed_in:
            handed(world, (number,), *[other for other in "abcd" if chance.random() < 0.3], name)
    return world


class InterfaceTest(unittest.TestCase):

    def test_names(self):
        given = {
            "room_of": ["world", "room"], "sides": ["world", "room"], "parted": ["world", "room", "one", "other"],
            "behind": ["world", "member", "room"], "readable": ["world", "member", "room"], "exposed": ["world", "member", "room"],
            "let_go": ["world"],
        }
        for name, parts in given.items():
            self.assertEqual(list(inspect.signature(getattr(audits, name)).parameters), parts)
            self.assertEqual(getattr(audits, name).__module__, "strangerspost.audits")


class ErrorsTest(AuditCase):

    def test_no_names_and_no_rooms(self):
        world = room_of("abc")
        world.found("c", "q")
        for name in NO_WORDS + ("d", "r"):
            for call in (behind, readable, exposed):
                self.refuses(NoName, world, call, world, name, "r")
                self.refuses(NoName, world, call, world, name, None)
            self.refuses(NoName, world, parted, world, "r", name, "a")
            self.refuses(NoName, world, parted, world, "r", "a", name)
            self.refuses(NoName, world, parted, world, None, name, name)
        for room in NO_WORDS + ("a", "q"):
            for call in (behind, readable, exposed):
                self.refuses(NoRoom, world, call, world, "a", room)
            self.refuses(NoRoom, world, parted, world, room, "a", "c")
            self.refuses(NoRoom, world, parted, world, room, "b", "b")

    def test_of_one_ahead_of_the_other(self):
        world = room_of("ab")
        world.found("b", "q")
        self.refuses(NoName, world, parted, world, "q", "c", "a")
        self.refuses(NoRoom, world, parted, world, "q", "a", "c")
        self.refuses(NoName, world, parted, world, "q", "b", "c")
        self.refuses(NoRoom, world, parted, world, "q", "b", "a")
        self.refuses(NoRoom, world, parted, world, "s", "a", "c")


class RoomTest(AuditCase):

    def test_no_member(self):
        world = World(("b", "a"), 1, 1)
        self.assertEqual((self.asked(in_room, world, "r"), self.asked(sides, world, "r")), ([], []))

    def test_one_and_all(self):
        world = World(("b", "a", "c"), 1, 1)
        world.found("b", "r")
        self.assertEqual((self.asked(in_room, world, "r"), self.asked(sides, world, "r")), ([("b", 0)], [("b",)]))
        # Two rooms of one name are two rooms.
        world.found("a", "r")
        self.assertEqual((self.asked(in_room, world, "r"), self.asked(sides, world, "r")), ([("a", 0), ("b", 0)], [("a",), ("b",)]))
        world.leave("a", "r")
        joined(world, "b", "r", "a", "c")
        self.assertEqual(self.asked(in_room, world, "r"), [("a", 1), ("b", 1), ("c", 1)])
        self.assertEqual(self.asked(sides, world, "r"), [("a", "b", "c")])
        self.assertEqual(self.asked(in_room, world, "q"), [])

    def test_who_lags_behind(self):
        world = room_of("abc")
        numbers = world.change("a", "r", ())
        handed(world, numbers, "a", "c")
        self.assertEqual(self.asked(in_room, world, "r"), [("a", 3), ("b", 2), ("c", 3)])
        self.assertEqual(self.asked(sides, world, "r"), [("a", "c"), ("b",)])
        self.assertIsNone(self.asked(parted, world, "r", "a", "b"))
        handed(world, numbers, "b")
        self.assertEqual(self.asked(sides, world, "r"), [("a", "b", "c")])

    def test_what_is_returned_is_new(self):
        world = room_of("ab")
        for call in (in_room, sides):
            told = call(world, "r")
            told.append(None)
            self.assertNotEqual(call(world, "r"), told)
        told = let_go(world)
        told.append(None)
        self.assertNotEqual(let_go(world), told)


class ForkTest(AuditCase):

    def forked(self):
        """A room of four, from epoch 3 on two sides: a and c, b and d; a forked again at epoch 5 from c."""
        world = room_of("abcd")
        one, other = world.change("a", "r", ()), world.change("b", "r", ())
        handed(world, one, "a", "c")
        handed(world, other, "b", "d")
        handed(world, world.change("c", "r", ()), "a", "c")
        again, last = world.change("a", "r", ()), world.change("c", "r", ())
        handed(world, again, "a")
        handed(world, last, "c")
        return world

    def test_forks_and_forks_of_forks(self):
        world = self.forked()
        self.assertEqual(self.asked(in_room, world, "r"), [("a", 6), ("b", 4), ("c", 6), ("d", 4)])
        self.assertEqual(self.asked(sides, world, "r"), [("a",), ("b", "d"), ("c",)])
        told = {
            ("a", "b"): 4, ("a", "c"): 6, ("a", "d"): 4, ("b", "c"): 4, ("b", "d"): None, ("c", "d"): 4, ("a", "a"): None, ("b", "b"): None,
        }
        for (one, other), number in told.items():
            self.assertEqual(self.asked(parted, world, "r", one, other), number)
            self.assertEqual(self.asked(parted, world, "r", other, one), number)

    def test_at_the_first_epoch(self):
        # Two rooms of one name, that have nothing in common.
        world = World(("a", "b", "c"), 1, 1)
        world.found("a", "r")
        world.found("b", "r")
        self.assertEqual(self.asked(parted, world, "r", "a", "b"), 0)
        handed(world, world.change("a", "r", ()), "a")
        self.assertEqual(self.asked(parted, world, "r", "a", "b"), 0)
        numbers = world.change("a", "r", (("add", world.card("c")),))
        handed(world, numbers, "a", "c")
        # c has never been at an epoch at which b was.
        self.assertIsNone(self.asked(parted, world, "r", "b", "c"))
        self.assertIsNone(self.asked(parted, world, "r", "c", "a"))
        for _ in range(2):
            handed(world, world.change("b", "r", ()), "b")
        self.assertEqual(self.asked(parted, world, "r", "b", "c"), 2)

    def test_who_has_left_and_come_again(self):
        world = room_of("abc", keep=3)
        handed(world, world.change("a", "r", ()), "a", "c")
        # b is left behind, makes a change of its own, and is added anew.
        handed(world, world.change("b", "r", ()), "b")
        self.assertEqual(self.asked(parted, world, "r", "a", "b"), 3)
        world.leave("b", "r")
        card = world.card("b")
        handed(world, world.change("a", "r", (("remove", 1),)), "a", "c")
        handed(world, world.change("a", "r", (("add", card),)))
        self.assertEqual(self.asked(in_room, world, "r"), [("a", 5), ("b", 5), ("c", 5)])
        self.assertIsNone(self.asked(parted, world, "r", "a", "b"))
        self.assertIsNone(self.asked(parted, world, "r", "b", "c"))


class BehindTest(AuditCase):

    def test_nothing_and_one(self):
        world = room_of("ab")
        self.assertEqual(self.behind(world, "a"), ())
        number, = world.change("a", "r", ())
        # Its own pending one, too.
        self.assertEqual((self.behind(world, "a"), self.behind(world, "b")), ((number,), (number,)))
        world.hand(number, "b")
        self.assertEqual((self.behind(world, "a"), self.behind(world, "b")), ((number,), ()))

    def test_one_behind_another(self):
        world = room_of("abc")
        first, = world.change("a", "r", ())
        world.hand(first, "a")
        second, = world.change("a", "r", ())
        world.hand(second, "a")
        world.hand(first, "c")
        self.assertEqual([self.behind(world, name) for name in "abc"], [(), (first, second), (second,)])

    def test_the_least_first(self):
        world = room_of("abc")
        one, = world.change("a", "r", ())
        two, = world.change("b", "r", ())
        # c takes the lesser one, and so does a; b has one of its own, but the lesser one goes ahead.
        self.assertEqual([self.behind(world, name) for name in "abc"], [(one,)] * 3)
        world.hand(two, "b")
        three, = world.change("b", "r", ())
        self.assertEqual([self.behind(world, name) for name in "abc"], [(one,), (three,), (one,)])
        world.hand(two, "c")
        self.assertEqual(self.behind(world, "c"), (three,))

    def test_ones_that_lie_the_other_way_round(self):
        # A later change lies ahead of the one that it rests on.
        world = room_of("ab")
        copy = world.copy()
        first, = copy.change("b", "r", ())
        copy.hand(first, "b")
        second, = copy.change("b", "r", ())
        lines = world_image(copy).split("\n")
        posts = [at for at, line in enumerate(lines) if line.startswith("post ")]
        one, other = posts[first], posts[second]
        lines[one], lines[other] = lines[other], lines[one]
        turned = restored("\n".join(lines))
        self.assertEqual(turned.post()[first], copy.post()[second])
        self.assertEqual(self.behind(turned, "a"), (second, first))
        self.assertEqual(self.behind(turned, "b"), (first,))

    def test_out_at_the_end(self):
        world = room_of("abc")
        first, = world.change("a", "r", ())
        world.hand(first, "a")
        second, = world.change("a", "r", (("remove", 1),))
        world.hand(second, "a")
        third, = world.change("a", "r", ())
        self.assertEqual([self.behind(world, name) for name in "abc"], [(third,), (first, second), (first, second, third)])

    def test_of_other_rooms_and_refused_ones(self):
        world = room_of("ab")
        world.found("a", "q")
        number, = world.change("a", "q", ())
        self.assertEqual((self.behind(world, "a"), self.behind(world, "a", "q")), ((), (number,)))
        self.assertEqual(self.behind(world, "b"), ())
        world.steal("b")
        made, = world.change_as("b", "r", ())
        self.assertEqual((self.behind(world, "a"), self.behind(world, "b")), ((made,), ()))

    def test_beside_a_plain_trial(self):
        found = []
        for seed in range(60):
            chance = random.Random(seed)
            world = lagging(chance, 16) if seed % 3 else History(chance, ("a", "b", "c"), True).go(40)
            for name in world.names:
                for room in world.rooms(name):
                    told = self.behind(world, name, room)
                    self.assertEqual(told, self.plain_behind(world, name, room))
                    found.append(len(told))
        self.assertGreater(len([count for count in found if count > 1]), 10)

    def plain_behind(self, world, name, room):
        trial, found = world.copy(), []
        while room in trial.rooms(name):
            for number in range(len(trial.post())):
                # Letters of words, and changes for other rooms, are no matter here.
                term = trial.post()[number]
                change = told_change(trial.book, term)
                if change is not None and change.label == trial.held[name].joined[room].own().label:
                    if trial.hand(number, name)[0] in ("changed", "out"):
                        found.append(number)
                        break
            else:
                break
        return tuple(found)


class ReadableTest(AuditCase):

    def test_the_edge_of_the_window(self):
        for window in (0, 1, 3):
            world = room_of("ab", window=window)
            numbers = [world.write("a", "r", None)[0] for _ in range(window + 3)]
            self.assertEqual(self.readable(world, "b"), tuple(numbers[:window + 1]))
            self.assertEqual(self.readable(world, "a"), ())
            world.hand(numbers[0], "b")
            self.assertEqual(self.readable(world, "b"), tuple(numbers[1:window + 2]))

    def test_kept_and_used_keys(self):
        world = room_of("ab", window=5)
        numbers = [world.write("a", "r", "hi")[0] for _ in range(5)]
        world.hand(numbers[3], "b")
        self.assertEqual(self.readable(world, "b"), tuple(numbers[:3] + numbers[4:]))
        world.hand(numbers[1], "b")
        self.assertEqual(self.readable(world, "b"), (numbers[0], numbers[2], numbers[4]))

    def test_elder_epochs(self):
        world = room_of("ab", keep=1)
        letters = []
        for _ in range(3):
            letters.append(world.write("a", "r", None)[0])
            handed(world, world.change("a", "r", ()))
        last = world.write("a", "r", None)[0]
        self.assertEqual(self.readable(world, "b"), (letters[2], last))

    def test_who_lags_behind(self):
        world = room_of("ab", keep=3)
        old = world.write("a", "r", None)[0]
        handed(world, world.change("a", "r", ()), "a")
        new = world.write("a", "r", None)[0]
        self.assertEqual(self.readable(world, "b"), (old,))
        self.assertEqual(world.hand(new, "b"), ("refused", "unlike"))
        mine = world.write("b", "r", None)[0]
        self.assertEqual((self.readable(world, "a"), self.readable(world, "b")), ((mine,), (old,)))

    def test_made_up_letters(self):
        world = room_of("abc")
        world.steal("b")
        lie = world.write_as("b", "r", "lie")[0]
        true = world.write("b", "r", "true")[0]
        # Each of them could be opened just now, though not both.
        self.assertEqual(self.readable(world, "a"), (lie, true))
        world.hand(true, "a")
        self.assertEqual(self.readable(world, "a"), ())
        self.assertEqual(self.readable(world, "b"), ())

    def test_for_a_blank_leaf(self):
        # Such a letter is made up, and lies in the post of an image.
        world = room_of("abc")
        handed(world, world.change("a", "r", (("remove", 1),)))
        hand = Hand(world)
        epoch_key = world.book_now().parts(world.held["a"].joined["r"].chain)[1]
        label, key = world.held["a"].joined["r"].own().label, hand.made("key", hand.turn(1, 0, epoch_key))
        letter = hand.letter(label, 1, 0, key, world.held["b"].marks, hand.name("hi"))
        lines = world_image(world).split("\n")
        at = [at for at, line in enumerate(lines) if line.startswith("bag ")][0]
        lines[at:at + 1] = [f"post {letter}", f"{lines[at]} {letter}"]
        other = restored("\n".join(lines))
        self.assertEqual(other.hand(len(world.post()), "a"), ("refused", "unlike"))
        self.assertEqual((self.readable(other, "a"), self.behind(other, "a")), ((), ()))

    def test_of_another_room(self):
        world = room_of("ab")
        world.found("a", "q")
        joined(world, "a", "q", "b")
        one, other = world.write("a", "r", None)[0], world.write("a", "q", None)[0]
        self.assertEqual((self.readable(world, "b"), self.readable(world, "b", "q")), ((one,), (other,)))

    def test_beside_a_plain_trial(self):
        found = []
        for seed in range(60):
            chance = random.Random(seed)
            world = lagging(chance, 16) if seed % 3 else History(chance, ("a", "b", "c"), True).go(40)
            for name in world.names:
                for room in world.rooms(name):
                    told = self.readable(world, name, room)
                    plain = []
                    for number, term in enumerate(world.post()):
                        if told_letter(world.book, term) and world.copy().hand(number, name)[:2] == ("words", room):
                            plain.append(number)
                    self.assertEqual(told, tuple(plain))
                    found.append(len(told))
        self.assertGreater(len([count for count in found if count > 1]), 10)


class ExposedTest(AuditCase):

    def test_nothing_stolen(self):
        world = room_of("abc")
        for name in "abc":
            self.assertEqual(self.asked(exposed, world, name, "r"), ())

    def test_a_theft(self):
        world = room_of("abc")
        world.steal("b")
        told = [self.asked(exposed, world, name, "r") for name in "abc"]
        # a and b have the node above both in common, and all the root.
        self.assertEqual(told, [
            ("chain", "nodes", "seal", "turns"), ("chain", "leaf", "mark", "nodes", "seal", "turns"),
            ("chain", "nodes", "seal", "turns"),
        ])

    def test_behind_its_own_change(self):
        world = room_of("abc")
        world.steal("b")
        handed(world, world.change("b", "r", ()))
        told = [self.asked(exposed, world, name, "r") for name in "abc"]
        self.assertEqual(told, [(), ("mark",), ()])

    def test_ahead_of_and_behind_the_change_of_another(self):
        world = room_of("abc")
        world.steal("b")
        handed(world, world.change("a", "r", ()))
        self.assertEqual(self.asked(exposed, world, "a", "r"), ("chain", "nodes", "seal", "turns"))
        handed(world, world.change("a", "r", (("remove", 1),)))
        self.assertEqual(self.asked(exposed, world, "a", "r"), ())
        self.assertEqual(self.asked(exposed, world, "c", "r"), ())

    def test_word_by_word(self):
        world = World(("a", "b"), 1, 0)
        world.found("a", "r")
        # Alone at the root, its leaf's key is no node above.
        copy = world.copy()
        copy.steal("a")
        self.assertEqual(self.asked(exposed, copy, "a", "r"), ("chain", "leaf", "mark", "seal", "turns"))
        handed(copy, copy.change("a", "r", ()))
        self.assertEqual(self.asked(exposed, copy, "a", "r"), ("mark",))
        # A card that was stolen tells the leaf's key, and all else of a welcome for it.
        card = world.card("b")
        world.steal("b")
        numbers = world.change("a", "r", (("add", card),))
        world.hand(numbers[0], "a")
        world.hand(numbers[1], "b")
        self.assertEqual(self.asked(exposed, world, "b", "r"), ("chain", "leaf", "mark", "nodes", "seal", "turns"))
        self.assertEqual(self.asked(exposed, world, "a", "r"), ("chain", "nodes", "seal", "turns"))

    def test_turns_and_kept_keys(self):
        # Of an epoch that is elder for one and own for another one, the turns were stolen alone.
        world = room_of("ab", window=3, keep=1)
        numbers = [world.write("a", "r", None)[0] for _ in range(2)]
        number, = world.change("a", "r", ())
        world.hand(number, "a")
        world.steal("a")
        # Both hold the same key of the root while b lags behind, but a has let go of it.
        self.assertEqual(self.asked(exposed, world, "b", "r"), ("turns",))
        self.assertEqual(self.asked(exposed, world, "a", "r"), ("chain", "leaf", "mark", "nodes", "seal", "turns"))
        world.hand(numbers[1], "b")
        self.assertEqual(world.knows(world.held["b"].joined["r"].own().kept[0][0]), False)
        # A change of its own heals b, but for the elder epochs, that are no matter here.
        world.hand(number, "b")
        handed(world, world.change("b", "r", ()))
        self.assertEqual(self.asked(exposed, world, "b", "r"), self.plain_exposed(world, "b", "r"))

    def plain_exposed(self, world, name, room):
        holder = world.held[name]
        held = holder.joined[room]
        epoch = held.own()
        words = []
        for word, terms in (
            ("chain", [held.chain]), ("leaf", [held.held[(0, held.leaf)]]), ("mark", [holder.marks]),
            ("nodes", [key for node, key in held.held.items() if node[0] > 0]), ("seal", [held.seal]),
            ("turns", [turn for _, turn in epoch.turns.values()] + [key for keys in epoch.kept.values() for key in keys.values()]),
        ):
            if any([world.knows(term) for term in terms]):
                words.append(word)
        return tuple(words)

    def test_drawn(self):
        seen = set()
        for seed in range(40):
            world = History(random.Random(seed), ("a", "b", "c"), seed % 2 == 0).go(50)
            for name in world.names:
                for room in world.rooms(name):
                    told = self.asked(exposed, world, name, room)
                    self.assertEqual(told, self.plain_exposed(world, name, room))
                    seen.add(told)
        self.assertGreater(len(seen), 3)


class LetGoTest(AuditCase):

    def test_by_hand(self):
        world = World(("a",), 1, 0)
        self.assertEqual(self.asked(let_go, world), [])
        card = world.card("a")
        # All is known of the stores and the bag.
        self.assertEqual(self.asked(let_go, world), [])
        world.found("a", "r")
        epoch_key = world.book_now().parts(world.held["a"].joined["r"].chain)[1]
        letters = world.book_now().number_of("made", (world.put("name", ("letters",)), epoch_key))
        self.assertEqual(self.asked(let_go, world), [epoch_key, letters])
        leaf = world.held["a"].joined["r"].held[(0, 0)]
        number, = world.change("a", "r", ())
        chain, seal = world.held["a"].joined["r"].chain, world.held["a"].joined["r"].seal
        turn = world.held["a"].joined["r"].own().turns[0][1]
        start = world.held["a"].joined["r"].pending[1]
        self.assertNotIn(start, let_go(world))
        self.assertTrue({epoch_key, letters}.issubset(let_go(world)))
        world.hand(number, "a")
        gone = self.asked(let_go, world)
        for term in (epoch_key, letters, leaf, chain, seal, turn, start):
            self.assertIn(term, gone)
        self.assertNotIn(world.held["a"].joined["r"].chain, gone)
        self.assertEqual(card, 0)

    def test_what_the_stranger_has_is_not_let_go(self):
        world = World(("a",), 1, 0)
        world.found("a", "r")
        leaf = world.held["a"].joined["r"].held[(0, 0)]
        world.steal("a")
        handed(world, world.change("a", "r", ()))
        self.assertNotIn(leaf, self.asked(let_go, world))
        world.leave("a", "r")
        self.assertNotIn(leaf, self.asked(let_go, world))

    def test_terms_that_are_put_in(self):
        world = World(("a",), 1, 0)
        name = world.put("name", ("x",))
        secret = world.book.fresh()
        lock = world.put("lock", (secret,))
        self.assertEqual(self.asked(let_go, world), [secret, lock])
        self.assertEqual(world.put("row", (name, name)), lock + 1)
        self.assertEqual(self.asked(let_go, world), [secret, lock])

    def test_beside_the_bag_with_all_stores(self):
        for seed in range(30):
            world = History(random.Random(seed), ("a", "b", "c"), seed % 2 == 0).go(45)
            book = world.book_now()
            bag = tuple(world.bag()) + tuple([term for name in world.names for term in world.store(name)])
            everybody = learner(book, bag)
            self.assertEqual(self.asked(let_go, world), [term for term in range(book.size()) if not everybody.knows(term)])

    def test_the_fact_of_letting_go(self):
        gone = 0
        for seed in range(30):
            history = History(random.Random(seed), ("a", "b", "c"), seed % 3 != 0)
            lost = {}
            for _ in range(5):
                world = history.go(14)
                if history.chance.random() < 0.4:
                    world.steal(history.chance.choice(world.names))
                now = let_go(world)
                fresh = [term for term in now if world.book.kind(term) == "fresh"]
                for term in lost:
                    self.assertIn(term, fresh)
                lost.update({term: True for term in fresh})
            gone += len(lost)
        self.assertGreater(gone, 100)


if __name__ == "__main__":
    unittest.main()
