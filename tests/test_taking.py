"""What members do with what is handed to them: each outcome by itself."""

import unittest

from strangerspost.world import World
from tests.worlds import Hand, WorldCase, handed, plain_change, room_of

UNLIKE = ("refused", "unlike")


class ChangeCase(WorldCase):
    """A room of a, b, c and d, at epoch 4; the stranger knows all that c holds, and makes a change in its place."""

    def setUp(self):
        self.world = room_of("abcd", 2, 1)
        # b is removed and added again, so nobody has a key of the node above it and a.
        handed(self.world, self.world.change("c", "r", (("remove", 1), ("add", self.world.card("b")))))
        self.world.steal("c")
        self.hand = Hand(self.world)
        self.start = self.world.fresh()
        self.room = self.world.held["c"].joined["r"]
        self.plain = plain_change(self.world, "c", "r", (), self.start, self.room.chain)
        self.book = self.world.book_now()
        self.marked, self.sealed, self.behind = self.book.parts(self.plain["letter"])
        self.body = self.book.parts(self.book.parts(self.marked)[1])

    def letter(self, body=None, marks=None, seal=None, behind=None, rest=()):
        """The right letter of c with some parts otherwise, all else put together anew."""
        hand, room = self.hand, self.room
        term = self.world.put("row", tuple(self.body if body is None else body))
        marked = hand.mark(self.world.held["c"].marks if marks is None else marks, term)
        sealed = hand.print(hand.row(room.seal if seal is None else seal, marked))
        return hand.row(marked, sealed, self.behind_of(term, marked) if behind is None else behind, *rest)

    def behind_of(self, body, marked):
        """The print of the context that a body leads to, where its tree is just that of the right one."""
        book = self.world.book_now()
        context = book.parts(self.plain["context"])
        trail = book.parts(self.world.view("c", "r")[1])[4]
        return self.hand.print(self.hand.row(*context[:4], self.hand.print(self.hand.row(trail, marked))))

    def otherwise(self, at, part):
        return self.body[:at] + (part,) + self.body[at + 1:]

    def comes(self, answer, term, name="a"):
        before = self.world.store(name)
        self.assertTrue(self.world.knows(term))
        self.assertEqual(self.world.hand_term(term, name), answer)
        if answer[0] == "refused":
            self.assertEqual(self.world.store(name), before)

    def refused(self, why, term, name="a"):
        self.comes(("refused", why), term, name)


class ChangedTest(ChangeCase):

    def test_the_right_one(self):
        self.assertEqual(self.letter(), self.plain["letter"])
        for name in "abd":
            self.comes(("changed", "r", 5), self.letter(), name)
            self.assertEqual(self.world.view(name, "r")[1], self.plain["context"])
            self.refused("old", self.letter(), name)
        # Nobody boxed anything to c, at whose leaf it was made.
        self.refused("box", self.letter(), "c")

    def test_old_and_fork(self):
        (number,) = self.world.change("a", "r", ())
        handed(self.world, (number,))
        self.refused("fork", self.letter())
        handed(self.world, self.world.change("b", "r", ()))
        self.refused("fork", self.letter(), "d")
        self.assertEqual(self.world.hand(number, "d"), ("refused", "old"))
        # Even what is wrong in each other way is a fork, as long as it is of the shape.
        hand = self.hand
        body = self.otherwise(2, hand.number(9))
        self.refused("fork", self.letter(body, self.world.fresh(), self.world.fresh(), hand.print(self.start)))

    def test_of_no_epoch_of_its_own(self):
        self.refused("unlike", self.letter(self.otherwise(1, self.hand.print(self.start))))
        world = self.world
        world.found("a", "s")
        body = self.otherwise(1, self.hand.print(world.view("a", "s")[1]))
        self.refused("mark", self.letter(body))
        self.refused("unlike", self.letter(body), "b")
        world.leave("a", "r")
        self.refused("unlike", self.letter())

    def test_mark(self):
        hand, world = self.hand, self.world
        self.refused("mark", self.letter(marks=world.fresh()))
        self.refused("mark", self.letter(marks=hand.lock(world.held["c"].marks)))
        for leaf in (0, 1, 3, 4, 10 ** 11):
            self.refused("mark", self.letter(self.otherwise(2, hand.number(leaf))))
        # Whatever else is wrong, the mark is told first.
        self.refused("mark", self.letter(marks=world.fresh(), seal=world.fresh(), behind=hand.print(self.start)))

    def test_seal(self):
        hand, world = self.hand, self.world
        self.refused("seal", self.letter(seal=world.fresh()))
        wishes = hand.row(hand.row("remove", hand.number(2)))
        self.refused("seal", self.letter(self.otherwise(3, wishes), seal=world.fresh()))
        other = self.letter(self.otherwise(4, hand.lock(world.fresh())))
        marked = world.book_now().parts(other)[0]
        for sealed in (self.sealed, hand.print(marked), hand.print(hand.row(marked, self.room.seal)), hand.print(hand.row(
                self.room.seal, marked, marked)), hand.print(self.room.seal), hand.print(hand.chest(
                    self.room.seal, marked)), hand.print(hand.mark(self.room.seal, marked))):
            self.refused("seal", hand.row(marked, sealed, self.behind))

    def wished(self, *wishes):
        return self.letter(self.otherwise(3, self.hand.row(*wishes)))

    def test_wish(self):
        hand, world = self.hand, self.world
        one = world.fresh()
        marks = world.held["c"].marks
        card = hand.card(marks, "c", one, one)
        for wish in (
            hand.row("remove", hand.number(2)), hand.row("remove", hand.number(4)), hand.row("add", card),
            hand.row("add", one), hand.row("add", hand.name("card")), hand.row("add", hand.card(marks, "a", one, one)),
            hand.row("add", hand.card(one, "c", one, one)), hand.row("remove", hand.number(10 ** 11)),
        ):
            self.refused("wish", self.wished(wish))
        remove = hand.row("remove", hand.number(1))
        self.refused("wish", self.wished(remove, remove))
        self.refused("path", self.wished(remove))
        # Whoever is removed itself looks at the wishes and the path ahead of that.
        self.refused("wish", self.wished(remove, remove), "b")
        self.refused("path", self.wished(remove), "b")

    def test_path(self):
        hand, world, body = self.hand, self.world, self.body
        levels = self.book.parts(body[5])
        lock, boxes = self.book.parts(levels[0])
        top, above = self.book.parts(levels[1])
        one, two = self.book.parts(boxes), self.book.parts(above)
        self.assertEqual((len(levels), len(one), len(two)), (2, 1, 2))
        right = hand.row(lock, boxes)
        self.assertEqual(right, levels[0])
        content = self.book.parts(two[0])[1]
        others = [
            hand.row(levels[0]), hand.row(*levels, levels[1]), hand.row(), hand.row(levels[1], levels[0]),
            hand.row(hand.row(lock, hand.row()), levels[1]), hand.row(levels[0], hand.row(top, hand.row(two[1], two[0]))),
            hand.row(levels[0], hand.row(top, hand.row(two[0]))), hand.row(levels[0], hand.row(top, hand.row(*two, two[0]))),
            hand.row(levels[0], hand.row(top, hand.row(two[0], hand.box(hand.lock(world.fresh()), content)))),
            hand.row(levels[0], hand.row(top, hand.row(two[0], hand.box(hand.name("x"), content)))),
        ]
        for other in others:
            self.refused("path", self.letter(self.otherwise(5, other)), "a")

    def test_out(self):
        hand, world = self.hand, self.world
        plain = plain_change(world, "c", "r", (("remove", 3),), self.start, self.room.chain)
        marked, sealed, behind = world.book_now().parts(plain["letter"])
        # Who is out does not ask where it leads.
        self.comes(("out", "r"), hand.row(marked, sealed, hand.print(self.start)), "d")
        self.assertEqual(world.store("d"), (world.held["d"].marks,))
        self.refused("label", hand.row(marked, sealed, hand.print(self.start)))
        self.comes(("changed", "r", 5), plain["letter"])

    def levels(self, first, second):
        return self.letter(self.otherwise(5, self.hand.row(first, second)))

    def test_box(self):
        hand, world = self.hand, self.world
        levels = self.book.parts(self.body[5])
        top, above = self.book.parts(levels[1])
        two = self.book.parts(above)
        lock, content = self.book.parts(two[0])
        (right,) = [world.book_now().parts(box)[1] for box in two[:1]]
        self.assertEqual(right, self.plain["ways"][2])
        for other in (world.fresh(), self.plain["ways"][1], self.plain["keys"][2], hand.name("p")):
            boxes = hand.row(hand.box(lock, other), *two[1:])
            self.refused("box", self.levels(levels[0], hand.row(top, boxes)))
        # A lock further up that p does not lead to is none that fits.
        self.refused("box", self.levels(levels[0], hand.row(hand.lock(world.fresh()), above)))
        self.refused("box", self.levels(levels[0], hand.row(hand.lock(self.plain["keys"][1]), above)), "d")
        # Locks below that are not asked by those who get p of a higher level.
        wrong = self.levels(hand.row(hand.lock(world.fresh()), self.book.parts(levels[0])[1]), levels[1])
        self.refused("box", wrong, "d")
        self.refused("label", wrong)

    def test_label(self):
        hand, world = self.hand, self.world
        for behind in (self.start, self.plain["tree"], self.world.view("a", "r")[1]):
            self.refused("label", self.letter(behind=hand.print(behind)))
        context = world.book_now().parts(self.plain["context"])
        for at, other in ((1, hand.name("s")), (2, hand.number(6)), (2, hand.number(4)), (4, hand.name("begin"))):
            parts = context[:at] + (other,) + context[at + 1:]
            self.refused("label", self.letter(behind=hand.print(hand.row(*parts))))

    def test_made_up_locks_below_are_taken(self):
        # a never sees p(1); so whatever lock is told for that node stands in its tree then.
        hand, world = self.hand, self.world
        levels = self.book.parts(self.body[5])
        other = hand.lock(world.fresh())
        body = self.otherwise(5, hand.row(hand.row(other, self.book.parts(levels[0])[1]), levels[1]))
        marked = hand.mark(world.held["c"].marks, world.put("row", body))
        tree = world.view("a", "r")[2]
        leaves = list(tree.leaves)
        leaves[2] = ("c", self.body[4])
        keys = [hand.lock(key) for key in self.plain["keys"]]
        nodes = {node: (lock, aside) for node, lock, aside in tree.nodes}
        nodes.update({(1, 1): (other, []), (2, 0): (keys[2], [])})
        trail = world.book_now().parts(world.view("a", "r")[1])[4]
        context = hand.context("r", 5, hand.tree(2, leaves, nodes), hand.print(hand.row(trail, marked)))
        letter = hand.row(marked, hand.print(hand.row(self.room.seal, marked)), hand.print(context))
        self.comes(("changed", "r", 5), letter)
        self.refused("box", letter, "d")
        held = world.held["a"].joined["r"].held
        self.assertEqual(sorted(held), [(0, 0), (2, 0)])
        self.assertEqual(held[(2, 0)], self.plain["keys"][2])


class ShapesTest(ChangeCase):

    def test_letters_of_changes(self):
        hand, world, body = self.hand, self.world, self.body
        fresh, marked = self.start, self.marked
        wrong = [
            hand.row(marked, self.sealed), hand.row(marked, self.sealed, self.behind, self.behind),
            hand.row(marked, fresh, self.behind), hand.row(marked, self.sealed, fresh), hand.row(marked, self.sealed, hand.lock(
                fresh)), hand.row(self.sealed, marked, self.behind), hand.row(hand.print(marked), self.sealed, self.behind),
            hand.row(hand.mark(fresh, fresh), self.sealed, self.behind), hand.print(self.plain["letter"]),
            self.letter(body[:5]), self.letter(body + (fresh,)), marked, world.post()[0],
        ]
        level = self.book.parts(body[5])[0]
        lock, boxes = self.book.parts(level)
        (box,) = self.book.parts(boxes)
        for at, parts in {
            0: (hand.name("Change"), fresh, hand.number(0)),
            1: (fresh, hand.name("x"), hand.lock(fresh), self.world.view("a", "r")[1]),
            2: (fresh, hand.name("2"), hand.row(hand.number(2))),
            3: (
                fresh, hand.number(0), hand.row(fresh), hand.row(hand.row()), hand.row(hand.row("add")),
                hand.row(hand.row("add", fresh, fresh)), hand.row(hand.row("remove", fresh)), hand.row(hand.row(
                    "Remove", hand.number(1))), hand.row(hand.row(fresh, hand.number(1))), hand.row(hand.name("add")),
                hand.row(hand.row("remove", hand.name("1"))), hand.row(hand.row("remove", hand.number(1), hand.number(1))),
            ),
            4: (fresh, hand.print(fresh), hand.name("lock")),
            5: (
                fresh, hand.name("x"), hand.row(fresh, fresh), hand.row(level, hand.row(lock)),
                hand.row(level, hand.row(lock, boxes, boxes)), hand.row(level, hand.row(fresh, boxes)),
                hand.row(level, hand.row(hand.print(fresh), boxes)), hand.row(level, hand.row(lock, box)),
                hand.row(level, hand.row(lock, hand.row(fresh))), hand.row(level, hand.row(lock, hand.row(hand.chest(
                    fresh, fresh)))), hand.row(level, hand.row(lock, hand.row(lock))), hand.row(level, boxes),
            ),
        }.items():
            wrong.extend([self.letter(self.otherwise(at, part)) for part in parts])
        for term in wrong:
            self.refused("unlike", term)
            self.refused("unlike", term, "d")

    def test_other_things(self):
        world = self.world
        numbers = [world.card("a"), 0, world.found("a", "s")]
        self.assertEqual(handed(world, numbers), [UNLIKE] * 12)
        for term in (self.start, self.hand.name("x"), self.hand.row(), self.hand.box(self.start, self.start)):
            self.refused("unlike", term)


class WelcomeCase(WorldCase):
    """The stranger knows the marks' key of c; it welcomes a, who has a card in the post, to a room of its own."""

    def setUp(self):
        self.world = World(("a", "b", "c"), 2, 1)
        self.world.steal("c")
        self.card = self.world.card("a")
        _, self.key, self.entry = self.world.held["a"].cards[0]
        hand = self.hand = Hand(self.world)
        self.leaf_lock, self.lock = hand.lock(self.key), hand.lock(self.entry)
        self.start, self.joiner, self.own = self.world.fresh(), self.world.fresh(), self.world.fresh()
        self.ways = hand.up(self.start, 2)
        self.locks = [hand.lock(hand.made("node", way)) for way in self.ways]
        # a is welcomed at leaf 1, c stands at leaf 3: they meet at the root.
        self.leaves = [None, ("a", self.leaf_lock), None, ("c", hand.lock(self.own))]
        self.nodes = {(1, 1): (self.locks[1], []), (2, 0): (self.locks[2], [])}

    def tree(self, leaves=None, nodes=None):
        return self.hand.tree(2, self.leaves if leaves is None else leaves, self.nodes if nodes is None else nodes)

    def context(self, tree, room="r", number=7, trail=None):
        return self.hand.context(room, number, tree, self.hand.print(self.start) if trail is None else trail)

    def parts(self, tree=None, context=None, way=None, leaf=1, maker=3):
        tree = self.tree() if tree is None else tree
        context = self.context(tree) if context is None else context
        way = self.ways[2] if way is None else way
        return [self.joiner, way, self.hand.number(leaf), self.hand.number(maker), context, tree]

    def box(self, parts, marks=None, lock=None, word="welcome"):
        marks = self.world.held["c"].marks if marks is None else marks
        content = self.hand.mark(marks, self.hand.row(word, *parts))
        return self.hand.box(self.lock if lock is None else lock, content)

    def comes(self, answer, box, name="a"):
        before = self.world.store(name)
        self.assertEqual(self.world.hand_term(box, name), answer)
        if answer[0] == "refused":
            self.assertEqual(self.world.store(name), before)


class WelcomeTest(WelcomeCase):

    def test_the_right_one(self):
        box = self.box(self.parts())
        self.comes(UNLIKE, box, "b")
        self.comes(("entered", "r", 7), box)
        hand, world = self.hand, self.world
        epoch_key = hand.made("epoch", self.joiner)
        number, context, tree, seal, leaf = world.view("a", "r")
        self.assertEqual((number, context, seal, leaf), (7, self.context(self.tree()), hand.made("seal", epoch_key), 1))
        room = world.held["a"].joined["r"]
        self.assertEqual(room.held, {(0, 1): self.key, (2, 0): hand.made("node", self.ways[2])})
        self.assertEqual(room.own().turns, {1: (0, hand.turn(1, 0, epoch_key)), 3: (0, hand.turn(3, 0, epoch_key))})
        self.assertEqual(world.held["a"].cards, [])
        self.comes(UNLIKE, box)
        world.leave("a", "r")
        self.comes(UNLIKE, box)
        self.assertEqual(world.store("a"), (world.held["a"].marks,))

    def test_what_is_not_asked(self):
        hand = self.hand
        for trail in (hand.name("begin"), self.start):
            context = self.context(self.tree(), "abcdefghijkl", 10 ** 6, trail)
            self.comes(("entered", "abcdefghijkl", 10 ** 6), self.box(self.parts(context=context)))
            self.world.leave("a", "abcdefghijkl")
            self.card = self.world.card("a")
            _, self.key, self.entry = self.world.held["a"].cards[0]
            self.lock = hand.lock(self.entry)
            self.leaves[1] = ("a", hand.lock(self.key))

    def test_mark(self):
        hand, world = self.hand, self.world
        right, tree = self.parts(), self.tree()
        marks = ("refused", "mark")
        for at, parts in {
            2: (self.start, hand.name("1"), hand.row()), 3: (self.start, hand.number(0), hand.number(1), hand.number(2),
                                                             hand.number(4), hand.number(10 ** 11)),
            4: (
                self.start, tree, hand.row(), self.context(tree, "R"), self.context(tree, ""), self.context(tree, "r1"),
                self.context(tree, "abcdefghijklm"), self.context(tree, number=10 ** 6 + 1), hand.row(
                    "Context", "r", hand.number(7), hand.print(tree), hand.name("begin")), hand.row(
                    "context", "r", hand.name("7"), hand.print(tree), hand.name("begin")), hand.row(
                    "context", hand.number(0), hand.number(7), hand.print(tree), hand.name("begin")), hand.row(
                    "context", "r", hand.number(7), hand.print(tree)), hand.row(
                    "context", "r", hand.number(7), hand.print(tree), hand.name("begin"), hand.name("begin")),
            ),
            5: (self.start, hand.print(tree), hand.row(), right[4], hand.tree(1, self.leaves, {})),
        }.items():
            for part in parts:
                self.comes(marks, self.box(right[:at] + [part] + right[at + 1:]))
        self.comes(marks, self.box(right, world.fresh()))
        world.steal("b")
        self.comes(marks, self.box(right, world.held["b"].marks))
        self.comes(marks, self.box(right, word="Welcome"))
        self.comes(marks, self.box(right[:5]))
        self.comes(marks, self.box(right + [self.start]))
        for content in (self.start, hand.row("welcome", *right), hand.mark(self.start, self.start), hand.name("x")):
            self.comes(marks, hand.box(self.lock, content))
        # Whoever stands in the tree must be of the world, be it far from all else.
        leaves = [("z", self.lock)] + self.leaves[1:]
        self.comes(marks, self.box(self.parts(self.tree(leaves))))
        leaves[0] = ("b", self.lock)
        self.comes(("entered", "r", 7), self.box(self.parts(self.tree(leaves))))

    def test_room(self):
        self.world.found("a", "r")
        self.comes(("refused", "room"), self.box(self.parts()))
        self.comes(("refused", "room"), self.box(self.parts(way=self.start)))
        self.comes(("refused", "mark"), self.box(self.parts(), self.start))
        self.comes(("entered", "s", 7), self.box(self.parts(context=self.context(self.tree(), "s"))))

    def test_tree(self):
        hand, world = self.hand, self.world
        wrong = ("refused", "tree")
        tree = self.tree()
        self.comes(wrong, self.box(self.parts(context=self.context(self.tree([None] * 4, {})))))
        context = hand.row("context", "r", hand.number(7), tree, hand.name("begin"))
        self.comes(wrong, self.box(self.parts(context=context)))
        for leaf in (0, 2, 3, 4, 10 ** 11):
            self.comes(wrong, self.box(self.parts(leaf=leaf)))
        for one in (None, ("a", self.lock), ("b", self.leaf_lock), ("a", self.start)):
            leaves = [None, one] + self.leaves[2:]
            self.comes(wrong, self.box(self.parts(self.tree(leaves))))
        for way in (self.ways[1], self.start, hand.name("p"), hand.made("node", self.ways[2])):
            self.comes(wrong, self.box(self.parts(way=way)))
        for nodes in (
            {}, {(1, 1): self.nodes[(1, 1)]}, {(2, 0): (self.locks[1], [])}, {(2, 0): (self.locks[2], [1])},
            {(2, 0): (self.locks[2], [1, 3])}, {(2, 0): (hand.made("node", self.ways[2]), [])},
        ):
            self.comes(wrong, self.box(self.parts(self.tree(nodes=nodes))))
        # What is below the meeting, and who else is aside, is not asked.
        nodes = {(1, 0): (self.start, [1]), (2, 0): (self.locks[2], [3])}
        self.comes(("entered", "r", 7), self.box(self.parts(self.tree(nodes=nodes))))
        self.assertEqual(sorted(world.held["a"].joined["r"].held), [(0, 1), (2, 0)])

    def test_meeting_below_the_root(self):
        hand, world = self.hand, self.world
        leaves = [None, None] + [("c", hand.lock(self.own)), ("a", self.leaf_lock)]

        def told(nodes, leaf=3, maker=2):
            return self.box(self.parts(self.tree(leaves, nodes), way=self.ways[1], leaf=leaf, maker=maker))

        for nodes in (
            {(1, 1): (self.locks[1], [])}, {(2, 0): (self.locks[2], [])}, {(1, 1): (self.locks[1], [3]), (2, 0): (
                self.locks[2], [])}, {(1, 1): (self.locks[1], []), (2, 0): (self.locks[2], [3])},
            {(1, 1): (self.locks[1], []), (2, 0): (self.locks[1], [])},
        ):
            self.comes(("refused", "tree"), told(nodes))
        right = {(1, 1): (self.locks[1], [2]), (2, 0): (self.locks[2], [2])}
        self.comes(("entered", "r", 7), told(right))
        self.assertEqual(world.held["a"].joined["r"].held, {
            (0, 3): self.key, (1, 1): hand.made("node", self.ways[1]), (2, 0): hand.made("node", self.ways[2])})

    def test_a_welcome_of_its_own_making(self):
        # One and the same leaf meets itself nowhere.
        world = self.world
        world.steal("a")
        self.comes(("refused", "tree"), self.box(self.parts(maker=1), world.held["a"].marks))

    def test_boxes_that_no_entry_s_key_opens(self):
        hand, right = self.hand, self.parts()
        self.world.steal("a")
        for lock in (self.leaf_lock, hand.lock(self.start), hand.print(self.entry), self.start):
            self.comes(UNLIKE, self.box(right, lock=lock))

    def test_each_card_by_itself(self):
        world, hand = self.world, self.hand
        world.card("a")
        second = world.held["a"].cards[1]
        self.comes(("refused", "tree"), self.box(self.parts(), lock=hand.lock(second[2])))
        self.comes(("entered", "r", 7), self.box(self.parts()))
        self.assertEqual(world.held["a"].cards, [second])
        leaves = [None, ("a", hand.lock(second[1]))] + self.leaves[2:]
        tree = self.tree(leaves)
        box = self.box(self.parts(tree, self.context(tree, "s")), lock=hand.lock(second[2]))
        self.comes(("entered", "s", 7), box)


class LocksAlikeTest(WelcomeCase):

    def test_a_change_at_the_own_leaf_that_another_leaf_s_lock_opens(self):
        # b's leaf has a's lock; so a could open what is boxed to b, but gets no key of its own leaf by that.
        hand, world = self.hand, self.world
        leaves = [("b", self.leaf_lock)] + self.leaves[1:]
        self.comes(("entered", "r", 7), self.box(self.parts(self.tree(leaves))))
        world.steal("a")
        (number,) = world.change_as("a", "r", ())
        self.assertEqual(world.hand(number, "a"), ("refused", "box"))


class TwoWorldsTest(WorldCase):

    def test_a_change_with_a_welcome_that_comes_first(self):
        # A member that is entered already takes nothing of the letter that led there.
        world = room_of("ab")
        world.found("a", "s")
        numbers = world.change("a", "s", (("add", world.card("b")),))
        self.assertEqual(handed(world, numbers[1:] + numbers[:1], "b"), [("entered", "s", 1), UNLIKE])
        self.assertEqual(handed(world, numbers, "a"), [("changed", "s", 1), UNLIKE])
        self.assertEqual(world.view("a", "s")[:2], world.view("b", "s")[:2])


if __name__ == "__main__":
    unittest.main()
