import unittest

from strangerspost.images import world_image
from strangerspost.world import World
from tests.imagelines import ImageCase, kinds, lines_of, replaced, without_notes
from tests.test_images import told_world
from tests.worlds import Hand, handed, room_of


class SentenceCase(ImageCase):
    """Images of a world with all that a member can hold, its terms told by hand."""

    def setUp(self):
        self.world = told_world()[0]
        self.hand = Hand(self.world)
        self.post = self.world.post()

    def lines(self):
        """The lines of the world, with all terms that were put in meanwhile."""
        return lines_of(self.world)

    def edited(self, *pairs):
        """The lines with each line that is told, at its first place, put otherwise; None for a line that is out."""
        lines = self.lines()
        for line, other in pairs:
            at = lines.index(line)
            lines = replaced(lines, at, *([] if other is None else [other]))
        return lines

    def line(self, *words, at=0):
        """One of the lines that begin with some words."""
        head = " ".join(words) + " "
        return [line for line in self.lines() if line.startswith(head)][at]

    def otherwise(self, sentence, line, place, word):
        """The image is unsound with another word at a place of a line."""
        words = line.split(" ")
        self.assertNotEqual(words[place], str(word))
        words[place] = str(word)
        self.unsound(sentence, self.edited((line, " ".join(words))))

    def in_bag(self, lines, *terms):
        """The lines with further terms in the bag."""
        at = kinds(lines, "bag")[0]
        bag = sorted(set([int(word) for word in lines[at].split(" ")[1:]]) | set(terms))
        return replaced(lines, at, " ".join(["bag"] + [str(term) for term in bag]))

    def posted(self, lines, term):
        """The lines with one more term in the post, and its number there."""
        at = kinds(lines, "post")[-1]
        return self.in_bag(lines[:at + 1] + [f"post {term}"] + lines[at + 1:], term), len(kinds(lines, "post"))


class BagTest(SentenceCase):

    def test_the_bag_has_post_and_locks(self):
        bag = self.line("bag")
        locks = [self.hand.lock(key) for key in self.world.marks_keys().values()]
        for term in self.post + locks:
            words = [word for word in bag.split(" ") if word != str(term)]
            self.unsound(1, self.edited((bag, " ".join(words))))
        self.unsound(1, self.edited((bag, "bag")))

    def test_a_key_whose_lock_is_nowhere(self):
        other = self.world.book.fresh()
        line = self.line("member b")
        self.unsound(1, self.edited((line, f"member b {other}")))
        lock = self.hand.lock(other)
        # It is in the bag now, but marks cards no more.
        self.unsound(1, self.edited((line, f"member b {other}")))
        self.unsound(2, self.in_bag(self.edited((line, f"member b {other}")), lock))


class MarksTest(SentenceCase):

    def test_keys_of_marks(self):
        world = World(("a", "b"), 0, 0)
        hand = Hand(world)
        name = hand.name("x")
        self.world = world
        lock = hand.lock(name)
        line = self.line("member b")
        self.unsound(2, self.in_bag(self.edited((line, f"member b {name}")), lock))
        self.unsound(2, self.edited((line, "member b " + self.line("member a").split(" ")[2])))
        other = world.book.fresh()
        lock = hand.lock(other)
        self.assertEqual(self.taken(self.in_bag(self.edited((line, f"member b {other}")), lock)).store("b"), (other,))

    def test_cards(self):
        line = self.line("card", at=0)
        number = line.split(" ")[1]
        other = self.line("card", at=1).split(" ")
        for at in range(len(self.post)):
            if at != int(number):
                self.otherwise(2, line, 1, at)
        for place in (2, 3):
            self.otherwise(2, line, place, other[place])
            self.otherwise(2, line, place, self.hand.lock(int(line.split(" ")[place])))
            self.otherwise(2, line, place, line.split(" ")[5 - place])
        # A card of another member, in its place.
        self.unsound(2, self.edited((line, " ".join(other))))

    def test_cards_made_otherwise(self):
        hand, world = self.hand, self.world
        marks = world.held["b"].marks
        one, other, name = world.book.fresh(), world.book.fresh(), hand.name("x")
        row = hand.row("card", "b", hand.lock(one), hand.lock(other))
        right = hand.card(marks, "b", one, other)
        wrong = [
            (hand.card(world.held["a"].marks, "b", one, other), one, other), (hand.card(marks, "a", one, other), one, other),
            (hand.card(marks, "b", name, other), name, other), (hand.card(marks, "b", one, name), one, name), (row, one, other),
            (hand.mark(marks, hand.row("cart", "b", hand.lock(one), hand.lock(other))), one, other),
            (hand.mark(marks, hand.row("card", "b", one, hand.lock(other))), one, other),
            (hand.mark(marks, hand.row("card", "b", hand.lock(one), other)), one, other),
            (hand.mark(marks, hand.row("card", "b", hand.lock(one), hand.lock(other), name)), one, other),
            (hand.chest(marks, row), one, other), (right, other, one), (right, hand.lock(one), other),
        ]
        last = self.line("card", at=0)
        for term, key, entry in wrong + [(right, one, other)]:
            lines, number = self.posted(self.lines(), term)
            at = lines.index(last)
            lines = lines[:at + 1] + [f"card {number} {key} {entry}"] + lines[at + 1:]
            if term == right and key == one:
                self.assertIn(one, self.taken(lines).store("b"))
            else:
                self.unsound(2, lines)


class EpochsTest(SentenceCase):

    def test_some_epoch_is_kept(self):
        lines = self.lines()
        for at in kinds(lines, "room"):
            end = at + 1
            while end < len(lines) and lines[end].split(" ")[0] not in ("room", "member"):
                end += 1
            rows = [line for line in lines[at:end] if line.split(" ")[0] not in ("epoch", "turn", "kept", "pending")]
            self.unsound(3, lines[:at] + rows + lines[end:])

    def test_leaves(self):
        for line, leaf in ((self.line("room r", at=0), 1), (self.line("room r", at=0), 2), (self.line("room r", at=0), 10 ** 11)):
            self.otherwise(3, line, 2, leaf)
        self.otherwise(3, self.line("room s"), 2, 1)

    def test_a_leaf_that_is_blank(self):
        world = room_of("abc")
        handed(world, world.change("a", "r", (("remove", 1),)))
        self.world = world
        self.otherwise(3, self.line("room r", at=0), 2, 1)
        self.otherwise(3, self.line("room r", at=0), 2, 3)

    def test_names_of_rooms(self):
        lines = self.lines()
        for at in kinds(lines, "room"):
            if lines[at] != "room s 0":
                self.unsound(3, replaced(lines, at, "room q" + lines[at][6:]))
        self.unsound(3, replaced(lines, lines.index("room s 0"), "room z 0"))

    def test_contexts_and_trees(self):
        own, elder = self.line("epoch", at=1), self.line("epoch", at=0)
        for line in (own, elder):
            context, tree = [int(word) for word in line.split(" ")[1:]]
            parts = self.world.book_now().parts(context)
            row = self.world.put("row", parts[:2] + (self.hand.number(7),) + parts[3:])
            for other in (0, tree, self.hand.print(context), self.world.put("row", parts[:4])):
                self.otherwise(3, line, 1, other)
            wrong = (("contexts",) + parts[1:], (parts[0], 0) + parts[2:], parts[:2] + (0,) + parts[3:],)
            for items in wrong + (parts[:3] + (parts[4], parts[4]), parts[:3] + (tree, parts[4]), parts + (parts[4],)):
                self.otherwise(3, line, 1, self.hand.row(*items))
            # Of another number it is no epoch at which the member has been.
            self.otherwise(6, line, 1, row)
        context, tree = own.split(" ")[1:]
        others = elder.split(" ")[2]
        for other in (0, context, others, self.hand.name("tree"), self.hand.print(int(tree))):
            self.otherwise(3, own, 2, other)

    def test_a_tree_of_others(self):
        # The print is right, but nobody, or somebody else, is at the leaf, or it is no tree.
        hand, world = self.hand, self.world
        line = self.line("epoch", at=1)
        parts = world.book_now().parts(int(line.split(" ")[1]))
        lock = hand.lock(world.held["b"].joined["r"].held[(0, 0)])
        trees = [
            hand.tree(0, [None], {}), hand.tree(0, [("a", lock)], {}), hand.tree(1, [None, ("b", lock)], {}), hand.row("tree"),
            hand.tree(1, [("b", lock)], {}), hand.tree(9, [("b", lock)], {}), hand.tree(0, [("B", lock)], {}), 0,
        ]
        for tree in trees:
            context = hand.row(*parts[:3], hand.print(tree), parts[4])
            self.unsound(3, self.edited((line, f"epoch {context} {tree}")))

    def told_with_number(self, number):
        """The lines of a room whose founder's epoch has a number, its context told anew in all places."""
        world = World(("a",), 0, 0)
        world.found("a", "r")
        hand = Hand(world)
        room = world.held["a"].joined["r"]
        context, tree = room.own().context, room.own().tree
        other = hand.context("r", number, tree, hand.name("begin"))
        label = hand.print(other)
        self.world = world
        been, epoch = f"been {room.own().label} -", f"epoch {context} {tree}"
        return self.edited((been, f"been {label} -"), (epoch, f"epoch {other} {tree}"))

    def test_numbers_of_contexts(self):
        self.unsound(3, self.told_with_number(10 ** 9 + 1))
        self.unsound(3, self.told_with_number(10 ** 12 - 1))
        world = self.taken(self.told_with_number(10 ** 9))
        self.assertEqual(world.view("a", "r")[0], 10 ** 9)
        # Behind it the number has come beyond.
        world.hand(world.change("a", "r", ())[0], "a")
        self.assertEqual(world.view("a", "r")[0], 10 ** 9 + 1)
        self.refused_world(3, world)
        world = self.taken(self.told_with_number(10 ** 9 - 1))
        world.hand(world.change("a", "r", ())[0], "a")
        self.taken(lines_of(world))

    def refused_world(self, sentence, world):
        self.unsound(sentence, world_image(world).split("\n")[:-1])


class KeysTest(SentenceCase):

    def test_the_leaf_is_held(self):
        for line in (self.line("key 0 0", at=0), self.line("key 0 1")):
            self.unsound(4, self.edited((line, None)))

    def test_wrong_keys(self):
        hand = self.hand
        for line in (self.line("key 0 0", at=0), self.line("key 1 0", at=0)):
            key = int(line.split(" ")[3])
            elder = self.world.held["b"].joined["r"].chain
            for other in (0, hand.lock(key), elder, self.line("key 0 1").split(" ")[3]):
                # The lines of both members tell the root's key alike.
                lines = self.lines()
                self.unsound(4, replaced(lines, lines.index(line), " ".join(line.split(" ")[:3] + [str(other)])))

    def test_nodes_that_are_none(self):
        lines = self.lines()
        at = kinds(lines, "key")[1]
        key = lines[at].split(" ")[3]
        for level, index in ((0, 1), (1, 1), (2, 0), (1, 2), (7, 0), (10 ** 12 - 1, 0), (1, 10 ** 12 - 1)):
            self.unsound(4, replaced(lines, at, f"key {level} {index} {key}"))
            if (level, index) > (1, 0):
                self.unsound(4, replaced(lines, at, lines[at], f"key {level} {index} {key}"))

    def test_nodes_of_others_and_blank_ones(self):
        world = room_of("abcd", keep=2)
        for name in "db":
            handed(world, world.change(name, "r", ()))
        self.world = world
        held = {name: world.held[name].joined["r"].held for name in "abcd"}
        self.assertEqual([sorted(held[name]) for name in "ac"], [[(0, 0), (1, 0), (2, 0)], [(0, 2), (1, 1), (2, 0)]])
        lines = self.lines()
        at = lines.index(f"key 1 1 {held['c'][(1, 1)]}")
        self.taken(lines[:at] + lines[at + 1:])
        # The key of another node, and the key of a node above others.
        for key in (held["c"][(2, 0)], held["a"][(1, 0)], held["c"][(0, 2)]):
            self.unsound(4, replaced(lines, at, f"key 1 1 {key}"))
        for key in (held["c"][(1, 1)], held["a"][(1, 0)]):
            self.unsound(4, replaced(lines, at, f"key 1 0 {key}", lines[at]))
        # A blank one.
        key = held["c"][(1, 1)]
        handed(world, world.change("a", "r", (("remove", 3),)))
        self.assertNotIn((1, 1), world.held["c"].joined["r"].held)
        lines = self.lines()
        at = kinds(lines, "key")[-2]
        self.assertTrue(lines[at].startswith("key 0 2 "))
        self.unsound(4, replaced(lines, at, lines[at], f"key 1 1 {key}"))

    def test_locks_of_the_own_tree(self):
        world = room_of("ab", keep=3)
        before = dict(world.held["b"].joined["r"].held)
        handed(world, world.change("a", "r", ()))
        after = world.held["b"].joined["r"].held
        self.assertNotEqual(before[(1, 0)], after[(1, 0)])
        self.world = world
        line = self.line("key 1 0", at=1)
        lines = self.lines()
        at = len(lines) - 1 - lines[::-1].index(line)
        self.unsound(4, replaced(lines, at, f"key 1 0 {before[(1, 0)]}"))


class ChainsTest(SentenceCase):

    def test_of_one_epoch_key(self):
        own, other = self.line("chain", at=0), self.line("chain", at=1)
        chain, seal = own.split(" ")[1:]
        room = self.world.held["b"].joined["r"]
        key = self.world.book_now().parts(room.chain)[1]
        hand = self.hand
        wrong = [
            (chain, other.split(" ")[2]), (other.split(" ")[1], seal), (seal, chain), (chain, chain), (seal, seal), (key, seal),
            (chain, key), (hand.made("letters", key), seal), (chain, hand.made("letters", key)),
            (hand.made("chains", key), seal), (hand.put("made", (key, hand.name("chain"))), seal),
            (hand.row("chain", key), hand.row("seal", key)),
        ]
        for keys in (hand.lock(key), hand.name("key"), hand.made("epochs", key), hand.made("chain", key), hand.row(), room.seal):
            wrong.append((hand.made("chain", keys), hand.made("seal", keys)))
        for one, two in wrong:
            self.unsound(5, self.edited((own, f"chain {one} {two}")))

    def test_another_epoch_key(self):
        # Chain and seal are of one key, but the turns of the own epoch are not.
        hand = self.hand
        for key in (self.world.book.fresh(), hand.made("epoch", hand.name("x"))):
            one, two = hand.made("chain", key), hand.made("seal", key)
            lines = self.lines()
            self.unsound(7, replaced(lines, lines.index(self.line("chain", at=0)), f"chain {one} {two}"))


class BeenTest(SentenceCase):

    def test_letters(self):
        lines = self.lines()
        places = kinds(lines, "been")[:3]
        rows = [lines[at].split(" ") for at in places]
        # A letter is lacking, or stands beside the last one.
        for at, row in list(zip(places, rows))[:2]:
            self.unsound(6, replaced(lines, at, f"been {row[1]} -"))
        self.unsound(6, replaced(lines, places[2], f"been {rows[2][1]} {rows[1][2]}"))
        self.unsound(6, replaced(lines, places[2], f"been {rows[2][1]} {self.line('pending').split(' ')[1]}"))
        # No letter of a change, or that of one for another label.
        for other in (0, rows[0][1], rows[1][2], self.post[0], self.post[3], self.post[-1]):
            self.unsound(6, replaced(lines, places[0], f"been {rows[0][1]} {other}"))
        self.unsound(6, replaced(lines, places[1], f"been {rows[1][1]} {rows[0][2]}"))

    def test_labels(self):
        lines = self.lines()
        places = kinds(lines, "been")[:3]
        rows = [lines[at].split(" ") for at in places]
        self.unsound(6, lines[:places[0]] + [lines[places[0]]] + lines[places[0]:])
        self.unsound(6, lines[:places[1]] + [lines[places[0]]] + lines[places[1]:])
        self.unsound(6, replaced(lines, places[2], f"been {rows[0][1]} -"))
        self.unsound(6, replaced(lines, places[1], f"been {rows[2][1]} {rows[1][2]}"))
        self.unsound(6, lines[:places[0]] + [lines[places[1]], lines[places[0]]] + lines[places[2]:])
        self.unsound(6, lines[:places[0]] + lines[places[0] + 3:])
        for at in places[1:]:
            self.unsound(6, lines[:at] + lines[at + 1:])
        # The first one is of an epoch of which nothing is kept.
        self.taken(lines[:places[0]] + lines[places[0] + 1:])

    def test_how_many_epochs(self):
        world = room_of("ab", keep=2)
        for _ in range(3):
            handed(world, world.change("a", "r", ()))
        self.world = world
        lines = self.lines()
        epochs = kinds(lines, "epoch")[:3]
        ends = epochs[1:] + [kinds(lines, "member")[1]]
        for at, end in zip(epochs, ends):
            # Without one of them the sentence is broken, but for the own one the keys, the labels ahead of it.
            self.unsound(4 if end == ends[2] else 6, lines[:at] + lines[end:])
        self.unsound(6, lines[:epochs[0]] + lines[epochs[1]:ends[1]] + lines[epochs[0]:epochs[1]] + lines[ends[1]:])
        self.unsound(6, lines[:epochs[1]] + lines[epochs[0]:])
        for keep in (0, 1, 3, 4, 50):
            self.unsound(6, replaced(lines, 0, f"world 2 {keep}"))
        # Of fewer epochs than may be kept all are.
        self.world = room_of("ab", keep=7)
        self.taken(self.lines())
        self.taken(replaced(self.lines(), 0, "world 2 50"))
        self.taken(replaced(self.lines(), 0, "world 2 1"))
        self.unsound(6, replaced(self.lines(), 0, "world 2 0"))

    def test_a_label_that_is_nowhere(self):
        # The context of the epoch has no print in the book.
        line = self.line("epoch", at=1)
        context, tree = [int(word) for word in line.split(" ")[1:]]
        parts = self.world.book_now().parts(context)
        other = self.hand.row(*parts[:4], self.hand.name("trail"))
        lines = self.lines()
        self.unsound(6, replaced(lines, lines.index(line), f"epoch {other} {tree}"))


class TurnsTest(SentenceCase):

    def turns(self):
        """The places of the turns and kept keys of the room "r" of the first member, and the lines."""
        lines = self.lines()
        end = lines.index("room s 0")
        return [at for at in kinds(lines, "turn") if at < end], [at for at in kinds(lines, "kept") if at < end], lines

    def test_just_the_leaves_with_members(self):
        turns, kept, lines = self.turns()
        for at in turns:
            rows = lines[:at] + lines[at + 1:]
            if at == turns[-1]:
                # Its kept keys stand behind no turn of theirs.
                self.bad(at + 1, rows)
                rows = lines[:at] + lines[kept[-1] + 1:]
            self.unsound(7, rows)
        last = kept[-1]
        key = lines[turns[-1]].split(" ")[3]
        for leaf in (2, 3, 10 ** 11):
            self.unsound(7, replaced(lines, last, lines[last], f"turn {leaf} 0 {key}"))
        self.unsound(7, [line for line in lines if line.split(" ")[0] not in ("turn", "kept")])

    def test_a_blank_leaf(self):
        world = room_of("abc", keep=0)
        handed(world, world.change("a", "r", (("remove", 1),)))
        hand = Hand(world)
        key = world.book_now().parts(world.held["a"].joined["r"].chain)[1]
        turn = hand.turn(1, 0, key)
        self.world = world
        line = self.line("turn 0 0", at=0)
        lines = self.lines()
        at = lines.index(line)
        self.unsound(7, replaced(lines, at, line, f"turn 1 0 {turn}"))

    def test_other_turns(self):
        turns, kept, lines = self.turns()
        hand = self.hand
        key = self.world.book_now().parts(self.world.held["b"].joined["r"].chain)[1]
        elder = self.world.book_now().parts(self.world.book_now().parts(int(lines[turns[0]].split(" ")[3]))[1])[1]
        first = hand.turn(0, 0, key)
        at = turns[2]
        self.assertEqual(lines[at], f"turn 0 0 {first}")
        wrong = [
            (0, hand.turn(1, 0, key)), (0, hand.turn(0, 1, key)), (1, first), (2, hand.turn(0, 1, key)), (10 ** 12 - 1, first),
            (0, hand.turn(0, 0, elder)), (1, hand.turn(0, 1, elder)), (0, 0), (0, hand.made("letters", key)), (0, key),
            (0, hand.made("turn", hand.made("letters", key))), (1, hand.made("key", first)), (0, hand.made("key", first)),
            (0, hand.put("made", (hand.row("turn", hand.number(0)), key))),
            (0, hand.put("made", (hand.row("turns", hand.number(0)), hand.made("letters", key)))),
            (0, hand.put("made", (hand.row("turn", hand.name("0")), hand.made("letters", key)))),
            (0, hand.put("made", (hand.row("turn"), hand.made("letters", key)))),
            (0, hand.lock(first)), (0, hand.row(hand.row("turn", hand.number(0)), hand.made("letters", key))),
        ]
        for place, turn in wrong:
            rows = self.lines()
            self.unsound(7, replaced(rows, rows.index(lines[at], kinds(rows, "member")[0]), f"turn 0 {place} {turn}"))
        right = hand.turn(0, 5, key)
        rows = self.lines()
        self.taken(replaced(rows, rows.index(lines[at], kinds(rows, "member")[0]), f"turn 0 5 {right}"))

    def test_of_one_alone(self):
        world = World(("a",), 0, 0)
        world.found("a", "r")
        self.world = world
        line = self.line("turn")
        for place, turn in ((0, 0), (1, int(line.split(" ")[3])), (0, world.held["a"].joined["r"].chain)):
            self.unsound(7, self.edited((line, f"turn 0 {place} {turn}")))

    def test_letters_keys(self):
        hand = self.hand
        other = self.world.book.fresh()
        # All turns of an elder epoch are of one letters key, but one that no epoch key has come with.
        terms = [hand.turn(leaf, 0, other) for leaf in (0, 1)]
        rows = self.lines()
        start = kinds(rows, "member")[0]
        places = [at for at in kinds(rows, "turn") if at > start][:4]
        both = replaced(replaced(rows, places[0], f"turn 0 0 {terms[0]}"), places[1], f"turn 1 0 {terms[1]}")
        self.unsound(9, both)
        # One of each is too many; and letters keys are made as such.
        self.unsound(7, replaced(rows, places[0], f"turn 0 0 {terms[0]}"))
        plain = [hand.put("made", (hand.row("turn", hand.number(leaf)), other)) for leaf in (0, 1)]
        rows = self.lines()
        places = [at for at in kinds(rows, "turn") if at > kinds(rows, "member")[0]][:4]
        self.unsound(7, replaced(replaced(rows, places[0], f"turn 0 0 {plain[0]}"), places[1], f"turn 1 0 {plain[1]}"))
        # In the own epoch they must be of the chain's epoch key.
        made = hand.turn(1, 3, other)
        rows = self.lines()
        places = [at for at in kinds(rows, "turn") if at > kinds(rows, "member")[0]][:4]
        ends = [at for at in kinds(rows, "kept") if at > kinds(rows, "member")[0]][:2]
        rows = replaced(replaced(rows, places[2], f"turn 0 0 {terms[0]}"), places[3], f"turn 1 3 {made}")
        self.unsound(7, rows[:ends[0]] + rows[ends[1] + 1:])

    def test_kept_keys(self):
        turns, kept, lines = self.turns()
        hand = self.hand
        key = self.world.book_now().parts(self.world.held["b"].joined["r"].chain)[1]
        right = [hand.made("key", hand.turn(1, place, key)) for place in range(6)]
        self.assertEqual([lines[at] for at in kept], [f"kept 1 {place} {right[place]}" for place in (0, 1)])
        wrong = [
            (1, right[0]), (1, right[2]), (2, right[1]), (3, right[3]), (4, right[4]), (5, right[5]), (1, hand.turn(1, 1, key)),
            (1, hand.made("key", hand.turn(0, 1, key))), (1, hand.made("next", hand.turn(1, 1, key))), (1, 0), (1, key),
            (1, hand.made("key", hand.turn(1, 1, hand.name("x")))), (10 ** 12 - 1, right[1]),
        ]
        for place, term in wrong:
            rows = self.lines()
            at = rows.index(lines[kept[1]], kinds(rows, "member")[0])
            self.unsound(7, replaced(rows, at, f"kept 1 {place} {term}"))
        rows = self.lines()
        at = rows.index(lines[kept[1]], kinds(rows, "member")[0])
        self.taken(replaced(rows, at, f"kept 1 2 {right[2]}"))
        self.taken(replaced(rows, at, rows[at], f"kept 1 2 {right[2]}"))
        self.unsound(7, replaced(rows, at, rows[at], f"kept 1 3 {right[3]}"))


class PendingTest(SentenceCase):

    def test_other_letters(self):
        line = self.line("pending")
        _, letter, start = line.split(" ")
        taken = [int(row.split(" ")[2]) for row in self.lines() if row.startswith("been") and not row.endswith("-")]
        for other in taken + [0, self.post[0], self.post[-2], int(start)]:
            self.otherwise(8, line, 1, other)
        for other in (0, int(letter), self.hand.made("up", int(start)), self.hand.made("node", int(start))):
            self.otherwise(8, line, 2, other)

    def test_of_another_leaf(self):
        # The change that another member made for the same epoch.
        world = self.world
        number = world.change("a", "r", ())[0]
        pending = world.held["a"].joined["r"].pending
        self.assertEqual(pending[0], world.post()[number])
        line = self.line("pending", at=0)
        lines = self.lines()
        self.unsound(8, replaced(lines, lines.index(line), f"pending {pending[0]} {pending[1]}"))

    def test_for_another_epoch(self):
        world = self.world
        letter, start = world.held["b"].joined["r"].pending
        number = world.change("a", "r", ())[0]
        handed(world, (number,))
        lines = self.lines()
        at = lines.index("room s 0")
        self.unsound(8, lines[:at] + [f"pending {letter} {start}"] + lines[at:])

    def test_not_in_the_post(self):
        letter, start = self.world.held["b"].joined["r"].pending
        lines = self.lines()
        at = [at for at in kinds(lines, "post") if lines[at] == f"post {letter}"][0]
        self.unsound(8, lines[:at] + lines[at + 1:])

    def test_locks_above_may_be_otherwise(self):
        # Only the leaf's lock is asked: but who has such a letter does not take it as its own.
        world, hand = self.world, self.hand
        letter, start = world.held["b"].joined["r"].pending
        book = world.book_now()
        marked, seal, label = book.parts(letter)
        body = book.parts(book.parts(marked)[1])
        level = book.parts(book.parts(body[5])[0])
        other = hand.row(hand.row(hand.lock(start), level[1]))
        marks = world.held["b"].marks
        again = hand.mark(marks, hand.row(*body[:5], other))
        sealed = hand.print(hand.row(world.held["b"].joined["r"].seal, again))
        row = hand.row(again, sealed, label)
        lines, number = self.posted(self.lines(), row)
        restored = self.taken(replaced(lines, lines.index(f"pending {letter} {start}"), f"pending {row} {start}"))
        self.assertEqual(restored.hand(number, "b"), ("refused", "box"))
        self.taken(lines_of(restored))


class ComeTest(SentenceCase):

    def test_epochs_that_have_not_come(self):
        for line in [line for line in self.lines() if line.startswith("note came")]:
            # An epoch that nobody keeps may be left out.
            keys = {self.world.book_now().parts(room.chain)[1] for member in self.world.held.values()
                    for room in member.joined.values()}
            if int(line.split(" ")[2]) in keys:
                self.unsound(9, self.edited((line, None)))

    def test_notes_of_an_elder_image(self):
        world = room_of("ab")
        before = lines_of(world)
        handed(world, world.change("a", "r", ()))
        lines = lines_of(world)
        start, end = kinds(lines, "note")[0], kinds(lines, "member")[0]
        notes = [before[at] for at in kinds(before, "note")]
        self.unsound(9, lines[:start] + notes + lines[end:])
        self.unsound(9, without_notes(lines))
        # If nobody is in a room, none must have come.
        for name in "ab":
            world.leave(name, "r")
        lines = lines_of(world)
        self.taken(lines[:start] + notes + lines[kinds(lines, "member")[0]:])


class TwoTest(SentenceCase):

    def test_the_first_of_two(self):
        lines = self.lines()

        def other(rows, line, another):
            at = rows.index(line, kinds(rows, "bag")[0])
            return replaced(rows, at, another)

        keys, chain, been = self.line("key 0 0", at=0), self.line("chain", at=0), self.line("been", at=1)
        turn, pending, card = self.line("turn 0 0", at=0), self.line("pending"), self.line("card", at=0)
        breaks = [
            lambda rows: other(rows, self.line("bag"), "bag"),
            lambda rows: other(rows, card, "card 2 0 0"),
            lambda rows: other(rows, "room s 0", "room s 1"),
            lambda rows: other(rows, keys, "key 0 0 0"),
            lambda rows: other(rows, chain, "chain 0 0"),
            lambda rows: other(rows, been, been.rpartition(" ")[0] + " -"),
            lambda rows: other(rows, turn, "turn 0 0 0"),
            lambda rows: other(rows, pending, "pending 0 0"),
            without_notes,
        ]
        for one, first in enumerate(breaks):
            self.unsound(one + 1, first(lines))
            for two, second in enumerate(breaks[one + 1:]):
                self.unsound(one + 1, first(second(lines)))
                self.unsound(one + 1, second(first(lines)))

    def test_of_two_members(self):
        # What a later member breaks by an elder sentence is told ahead of what an elder one breaks by a later one.
        lines = self.lines()
        at = kinds(lines, "chain")[0]
        rows = replaced(lines, at, "chain 0 0")
        self.unsound(5, rows)
        card = kinds(lines, "card")[-1]
        self.unsound(2, replaced(rows, card, "card 0 0 0"))


class CraftedTest(SentenceCase):
    """Worlds that no history has, of images that are sound: they go on, and stay sound."""

    def test_names_of_nobody(self):
        # A tree with a name that is none of the world's, and a letter told as its own.
        world = room_of("ab", keep=1)
        hand = Hand(world)
        world.found("a", "q")
        room = world.held["a"].joined["q"]
        key, lock = room.held[(0, 0)], hand.lock(room.held[(0, 0)])
        tree = hand.tree(1, [("a", lock), ("zed", lock)], {})
        context = hand.context("q", 5, tree, hand.name("begin"))
        label, epoch_key = hand.print(context), world.book_now().parts(room.chain)[1]
        turns = [hand.turn(leaf, 0, epoch_key) for leaf in (0, 1)]
        letter = hand.letter(label, 1, 0, hand.made("key", turns[1]), world.held["b"].marks, hand.name("hi"))
        self.world = world
        lines, number = self.posted(self.lines(), letter)
        start = lines.index("room q 0")
        end = lines.index("room r 0")
        rows = ["room q 0", f"key 0 0 {key}", f"chain {room.chain} {room.seal}", f"been {label} -", f"epoch {context} {tree}"]
        rows += [f"turn 0 0 {turns[0]}", f"turn 1 0 {turns[1]}"]
        other = self.taken(lines[:start] + rows + lines[end:])
        self.assertEqual(other.view("a", "q")[0], 5)
        self.assertEqual(other.hand(number, "a"), ("refused", "mark"))
        self.taken(lines_of(other))
        numbers = other.change("a", "q", (("remove", 1),))
        self.assertEqual(other.hand(numbers[0], "a"), ("changed", "q", 6))
        self.taken(lines_of(other))

    def test_an_epoch_at_which_it_has_been(self):
        # Been tells an epoch that lies ahead: who comes there is there once.
        for keep in (0, 1, 2):
            world = World(("a",), 0, keep)
            world.found("a", "r")
            first = world.copy()
            numbers = [world.change("a", "r", ())[0]]
            world.hand(numbers[0], "a")
            numbers.append(world.change("a", "r", ())[0])
            room = world.held["a"].joined["r"]
            labels = [room.been[0][0], room.own().label]
            letters = [world.post()[number] for number in numbers]
            start = first.held["a"].joined["r"]
            # At epoch 0 again, with the change to epoch 1 pending, and been at epoch 1 ahead of that.
            self.world = world
            lines = self.lines()
            at = lines.index("room r 0")
            pending = world.ledger.terms[("path", 0, 0)]
            rows = ["room r 0", f"key 0 0 {start.held[(0, 0)]}", f"chain {start.chain} {start.seal}"]
            rows += [f"been {labels[1]} {letters[1]}", f"been {labels[0]} -"]
            ahead = room.own()
            rows += [f"epoch {ahead.context} {ahead.tree}", f"turn 0 0 {ahead.turns[0][1]}"] if keep else []
            own = start.own()
            rows += [f"epoch {own.context} {own.tree}", f"turn 0 0 {own.turns[0][1]}", f"pending {letters[0]} {pending}"]
            other = self.taken(lines[:at] + rows)
            self.assertEqual(other.view("a", "r")[0], 0)
            self.assertEqual(other.hand(numbers[0], "a"), ("changed", "r", 1))
            self.taken(lines_of(other))
            self.assertEqual([label for label, letter in other.held["a"].joined["r"].been], labels)
            self.assertEqual(other.hand(numbers[0], "a"), ("refused", "old"))

    def test_one_label_in_two_rooms(self):
        # Which of them tells it does not hang on how the world has come about.
        world = World(("a",), 0, 0)
        world.found("a", "r")
        number = world.change("a", "r", ())[0]
        world.hand(number, "a")
        world.found("a", "q")
        label, letter = world.held["a"].joined["r"].been[0]
        self.world = world
        lines = self.lines()
        at = [at for at in kinds(lines, "been") if at > lines.index("room q 0")][0]
        other = self.taken(lines[:at] + [f"been {label} {letter}"] + lines[at:])
        again = self.taken(lines_of(other))
        for one in (other, again):
            self.assertEqual(one.hand(number, "a"), ("refused", "old"))
            one.leave("a", "q")
            self.assertEqual(one.hand(number, "a"), ("refused", "old"))


if __name__ == "__main__":
    unittest.main()
