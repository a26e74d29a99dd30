import inspect
import random
import unittest

from strangerspost import trees
from strangerspost.books import Book
from strangerspost.errors import (
    BadTree, Named, NoLeaf, NoLock, NoLocks, NoName, NoNode, NoTerm, PostError, TreeFull,
)
from strangerspost.trees import (
    Tree, beside, holders, meeting, members, path, renewed, resolution, tree_of, tree_term, with_member, without_member,
)
from tests.things import NO_TERMS, deep, told

LONG = "abcdefghijkl"
NO_NAMES = ("", "A", "a b", "a1", "-", "abcdefghijklm", "\n", "a\n", "\u00e4", 0, None, True, b"a", ("a",), ["a"], deep(40))
NO_NUMBERS = (-1, True, False, None, "", "0", b"0", (), (0,), [0], {}, range(1), Book(), deep(40))


def letters(count):
    """So many unlike names."""
    return [chr(97 + at // 26) + chr(97 + at % 26) for at in range(count)]


def full_tree(height):
    """A tree without blank leaves, and without keys above them."""
    return Tree(height, tuple([(name, at) for at, name in enumerate(letters(2 ** height))]), ())


def parts_of(tree):
    return tree.height, tree.leaves, tree.nodes


class TreeCase(unittest.TestCase):

    def refuses(self, error, call, *given):
        with self.assertRaises(PostError) as caught:
            call(*given)
        self.assertIs(caught.exception.__class__, error)
        return caught.exception

    def bad(self, part, height, leaves, nodes):
        self.assertEqual(self.refuses(BadTree, Tree, height, leaves, nodes).part, part)


def grown(chance, count):
    """A tree of so many changes drawn by chance."""
    tree = Tree(0, (("first", 0),), ())
    names = letters(40)
    for at in range(count):
        deed = chance.random()
        if deed < 0.4:
            free = [name for name in names if name not in [leaf[0] for leaf in tree.leaves if leaf]]
            tree = with_member(tree, chance.choice(free), 1000 + at)[0]
        elif deed < 0.6 and len(members(tree)) > 1:
            tree = without_member(tree, chance.choice(members(tree)))
        else:
            leaf = chance.choice(members(tree))
            tree = renewed(tree, leaf, tuple([100 * at + level for level in range(tree.height + 1)]))
    return tree


class InterfaceTest(unittest.TestCase):

    def test_names(self):
        given = {
            "Tree": ["height", "leaves", "nodes"], "path": ["tree", "leaf"], "beside": ["tree", "leaf"],
            "resolution": ["tree", "node"], "members": ["tree"], "meeting": ["tree", "one", "other"],
            "holders": ["tree", "node"], "with_member": ["tree", "name", "lock"], "without_member": ["tree", "leaf"],
            "renewed": ["tree", "leaf", "locks"], "tree_term": ["book", "tree"], "tree_of": ["book", "term"],
        }
        for name, parts in given.items():
            self.assertEqual(list(inspect.signature(getattr(trees, name)).parameters), parts)
            self.assertEqual(getattr(trees, name).__module__, "strangerspost.trees")


class JudgingTest(TreeCase):

    def test_right_ones(self):
        for height in range(9):
            tree = full_tree(height)
            self.assertEqual(parts_of(tree), (height, tree.leaves, ()))
            blank = Tree(height, (None,) * 2 ** height, ())
            self.assertEqual(members(blank), ())
        nodes = (((1, 0), 5, (0, 1)), ((1, 1), 0, ()), ((2, 0), 10 ** 39, (1, 3)))
        tree = Tree(2, (("a", 0), (LONG, 10 ** 39), None, ("b", 0)), nodes)
        self.assertEqual(tree.nodes, nodes)

    def test_height(self):
        for height in (9, 10 ** 39) + NO_NUMBERS:
            self.bad("height", height, (("a", 0),), ())
            self.bad("height", height, None, None)

    def test_leaves(self):
        for leaves in ((), (None,) * 3, (None,), [None, None], None, "", {}, 2, True, ((None,), None), deep(40)):
            self.bad("leaves", 1, leaves, ())
            self.bad("leaves", 1, leaves, None)
        for name in NO_NAMES:
            self.bad("leaves", 1, ((name, 0), None), ())
        for lock in NO_NUMBERS:
            self.bad("leaves", 1, (None, ("a", lock)), ())
        for leaf in (("a",), ("a", 0, 0), ["a", 0], (), 0, "a0", (0, "a"), False):
            self.bad("leaves", 1, (leaf, None), ())
        self.bad("leaves", 1, (("a", 0), ("a", 1)), ())
        self.bad("leaves", 1, (("a", 0), ("a", 0)), ())
        self.bad("leaves", 0, (), ())
        self.bad("leaves", 8, (None,) * 255, ())

    def nodes_bad(self, *nodes):
        self.bad("nodes", 2, (("a", 0), ("b", 1), None, ("d", 3)), nodes)

    def test_nodes(self):
        leaves = (("a", 0), ("b", 1), None, ("d", 3))
        for nodes in ([], None, "", 0, {}, True, [((1, 0), 0, ())], deep(40)):
            self.bad("nodes", 2, leaves, nodes)
        for node in (
            (0, 0), (3, 0), (2, 1), (1, 2), (-1, 0), (1, -1), (1, True), (True, 0), [1, 0], (1,), (1, 0, 0), "10", 1, None,
            ("1", 0), (1, None), (10 ** 39, 0), (1, 10 ** 39),
        ):
            self.nodes_bad((node, 0, ()))
        for lock in NO_NUMBERS:
            self.nodes_bad(((1, 0), lock, ()))
        for row in ([(1, 0), 0, ()], ((1, 0), 0), ((1, 0), 0, (), ()), (), None, 0, "abc"):
            self.nodes_bad(row)
        for aside in ((1, 0), (0, 0), (2,), (3,), (4,), (-1,), (True,), ("0",), [0], [], None, 0, "0", ((0,),), (10 ** 39,)):
            self.nodes_bad(((1, 0), 0, aside))
        self.nodes_bad(((1, 1), 0, (0,)))
        self.nodes_bad(((2, 0), 0, (0, 2)))
        self.nodes_bad(((1, 1), 0, ()), ((1, 0), 0, ()))
        self.nodes_bad(((2, 0), 0, ()), ((1, 0), 0, ()))
        self.nodes_bad(((1, 0), 0, ()), ((1, 0), 0, ()))
        self.nodes_bad(((1, 0), 0, ()), ((1, 0), 1, ()))
        self.bad("nodes", 0, (("a", 0),), (((0, 0), 0, ()),))
        self.bad("nodes", 0, (("a", 0),), (((1, 0), 0, ()),))

    def test_the_first_wrong_part_is_told(self):
        self.bad("height", 9, (), None)
        self.bad("leaves", 1, (("a", 0), ("a", 0)), None)

    def test_equality(self):
        tree = Tree(1, (("a", 0), None), (((1, 0), 4, (0,)),))
        self.assertTrue(tree == Tree(1, (("a", 0), None), (((1, 0), 4, (0,)),)))
        for other in (
            Tree(1, (("a", 1), None), tree.nodes), Tree(1, (("b", 0), None), tree.nodes), Tree(1, tree.leaves, ()),
            Tree(1, tree.leaves, (((1, 0), 4, ()),)), Tree(1, tree.leaves, (((1, 0), 5, (0,)),)), Tree(0, (("a", 0),), ()),
            Tree(2, tree.leaves + (None, None), tree.nodes), 1, None, parts_of(tree), Book(),
        ):
            self.assertFalse(tree == other)
            self.assertTrue(tree != other)


class LookTest(TreeCase):

    def setUp(self):
        leaves = (("a", 10), ("b", 11), None, ("d", 13), None, None, ("g", 16), ("h", 17))
        self.tree = Tree(3, leaves, (((1, 0), 20, ()), ((1, 3), 23, (6,)), ((2, 0), 30, (1, 3)), ((2, 1), 31, (7,))))

    def test_path_and_beside(self):
        self.assertEqual(path(self.tree, 5), ((1, 2), (2, 1), (3, 0)))
        self.assertEqual(beside(self.tree, 5), ((0, 4), (1, 3), (2, 0)))
        self.assertEqual((path(self.tree, 0), beside(self.tree, 0)), (((1, 0), (2, 0), (3, 0)), ((0, 1), (1, 1), (2, 1))))
        single = full_tree(0)
        self.assertEqual((path(single, 0), beside(single, 0)), ((), ()))

    def test_resolution(self):
        told_ones = {
            (0, 0): ((0, 0),), (0, 2): (), (1, 0): ((1, 0),), (1, 1): ((0, 3),), (1, 2): (), (1, 3): ((1, 3), (0, 6)),
            (2, 0): ((2, 0), (0, 1), (0, 3)), (2, 1): ((2, 1), (0, 7)), (3, 0): ((2, 0), (0, 1), (0, 3), (2, 1), (0, 7)),
        }
        for node, answer in told_ones.items():
            self.assertEqual(resolution(self.tree, node), answer)

    def test_members_meeting_and_holders(self):
        self.assertEqual(members(self.tree), (0, 1, 3, 6, 7))
        self.assertEqual(meeting(self.tree, 0, 1), (1, 0))
        self.assertEqual(meeting(self.tree, 3, 1), (2, 0))
        self.assertEqual(meeting(self.tree, 7, 5), (2, 1))
        self.assertEqual(meeting(self.tree, 7, 0), (3, 0))
        self.assertEqual(holders(self.tree, (2, 0)), (0,))
        self.assertEqual(holders(self.tree, (2, 1)), (6,))
        self.assertEqual(holders(self.tree, (1, 3)), (7,))
        self.assertEqual(holders(self.tree, (3, 0)), ())
        self.assertEqual(holders(self.tree, (1, 1)), ())
        self.assertEqual(holders(self.tree, (0, 6)), (6,))
        self.assertEqual(holders(self.tree, (0, 4)), ())

    def test_no_leaf(self):
        for leaf in (8, 9, 10 ** 39) + NO_NUMBERS:
            for call in (path, beside, without_member):
                self.refuses(NoLeaf, call, self.tree, leaf)
            self.refuses(NoLeaf, meeting, self.tree, leaf, 0)
            self.refuses(NoLeaf, meeting, self.tree, 0, leaf)
            self.refuses(NoLeaf, renewed, self.tree, leaf, (0, 0, 0, 0))
            self.refuses(NoLeaf, renewed, self.tree, leaf, None)
        for leaf in range(8):
            self.refuses(NoLeaf, meeting, self.tree, leaf, leaf)

    def test_no_node(self):
        for node in (
            (0, 8), (1, 4), (3, 1), (4, 0), (-1, 0), (0, -1), (0, True), (False, 0), [0, 0], (0,), (0, 0, 0), "00", 0, None, (),
            ("0", 0), {}, Book(), deep(40), (10 ** 39, 0), (0, 10 ** 39),
        ):
            self.refuses(NoNode, resolution, self.tree, node)
            self.refuses(NoNode, holders, self.tree, node)

    def test_resolutions_part(self):
        for seed in range(60):
            tree = grown(random.Random(seed), 25)
            for level in range(tree.height + 1):
                for at in range(2 ** (tree.height - level)):
                    held = [leaf for node in resolution(tree, (level, at)) for leaf in holders(tree, node)]
                    self.assertEqual(tuple(sorted(held)), tuple([
                        leaf for leaf in members(tree) if leaf // 2 ** level == at
                    ]))


class ChangingTest(TreeCase):

    def test_the_example(self):
        t = Tree(0, (("a", 5),), ())
        t = with_member(t, "b", 6)[0]
        t = with_member(t, "c", 7)[0]
        self.assertEqual((t.height, members(t), resolution(without_member(t, 1), (2, 0))), (2, (0, 1, 2), ((0, 0), (0, 2))))

    def test_the_least_blank_leaf(self):
        tree = Tree(2, (("a", 0), None, ("c", 2), None), (((1, 0), 5, ()), ((1, 1), 6, (2,)), ((2, 0), 7, (2,))))
        more, leaf = with_member(tree, "b", 9)
        self.assertEqual(leaf, 1)
        self.assertEqual(parts_of(more), (2, (("a", 0), ("b", 9), ("c", 2), None), (
            ((1, 0), 5, (1,)), ((1, 1), 6, (2,)), ((2, 0), 7, (1, 2)))))
        most, leaf = with_member(more, "d", 8)
        self.assertEqual(leaf, 3)
        self.assertEqual(most.nodes, (((1, 0), 5, (1,)), ((1, 1), 6, (2, 3)), ((2, 0), 7, (1, 2, 3))))
        self.assertEqual(tree.leaves[1], None)

    def test_doubling(self):
        tree = Tree(1, (("a", 0), ("b", 1)), (((1, 0), 5, (1,)),))
        more, leaf = with_member(tree, "c", 3)
        self.assertEqual((leaf, parts_of(more)), (2, (2, (("a", 0), ("b", 1), ("c", 3), None), (((1, 0), 5, (1,)),))))
        self.assertEqual(parts_of(tree), (1, (("a", 0), ("b", 1)), (((1, 0), 5, (1,)),)))
        self.assertEqual(with_member(Tree(0, (None,), ()), "a", 1)[0], Tree(0, (("a", 1),), ()))

    def test_a_full_tree(self):
        tree = full_tree(8)
        self.refuses(TreeFull, with_member, tree, "new", 0)
        self.refuses(Named, with_member, tree, "aa", 0)
        self.refuses(NoLock, with_member, tree, "aa", -1)
        self.refuses(NoName, with_member, tree, "", -1)
        self.assertEqual(with_member(without_member(tree, 77), "new", 4)[1], 77)
        self.assertEqual(with_member(full_tree(7), "new", 4)[1], 128)

    def test_with_member_errors(self):
        tree = full_tree(1)
        for name in NO_NAMES:
            self.refuses(NoName, with_member, tree, name, 0)
            self.refuses(NoName, with_member, tree, name, None)
        for lock in NO_NUMBERS:
            self.refuses(NoLock, with_member, tree, "new", lock)
            self.refuses(NoLock, with_member, tree, "ab", lock)
        self.refuses(Named, with_member, tree, "ab", 0)

    def test_without_member(self):
        tree = Tree(2, (("a", 0), ("b", 1), ("c", 2), None), (((1, 0), 5, (1,)), ((1, 1), 6, (2,)), ((2, 0), 7, (1, 2))))
        self.assertEqual(parts_of(without_member(tree, 1)), (2, (("a", 0), None, ("c", 2), None), (((1, 1), 6, (2,)),)))
        self.assertEqual(parts_of(without_member(tree, 2)), (2, (("a", 0), ("b", 1), None, None), (((1, 0), 5, (1,)),)))
        self.refuses(NoLeaf, without_member, tree, 3)
        self.assertEqual(without_member(Tree(0, (("a", 0),), ()), 0), Tree(0, (None,), ()))

    def test_renewed(self):
        tree = Tree(2, (("a", 0), ("b", 1), ("c", 2), None), (((1, 0), 5, (1,)), ((1, 1), 6, (2,)), ((2, 0), 7, (1, 2))))
        self.assertEqual(parts_of(renewed(tree, 1, (91, 92, 93))), (
            2, (("a", 0), ("b", 91), ("c", 2), None), (((1, 0), 92, ()), ((1, 1), 6, (2,)), ((2, 0), 93, ()))))
        bare = Tree(2, tree.leaves, ())
        self.assertEqual(renewed(bare, 2, (91, 92, 93)).nodes, (((1, 1), 92, ()), ((2, 0), 93, ())))
        self.assertEqual(renewed(Tree(0, (("a", 0),), ()), 0, (3,)), Tree(0, (("a", 3),), ()))
        self.refuses(NoLeaf, renewed, tree, 3, (91, 92, 93))
        for locks in ((91, 92), (91, 92, 93, 94), [91, 92, 93], (), None, 0, "abc", {}, deep(40)):
            self.refuses(NoLocks, renewed, tree, 0, locks)
        for lock in NO_NUMBERS:
            for at in range(3):
                locks = [91, 92, 93]
                locks[at] = lock
                self.refuses(NoLocks, renewed, tree, 0, tuple(locks))


class TermTest(TreeCase):

    def setUp(self):
        book = self.book = Book()
        self.locks = [book.put("lock", (book.fresh(),)) for _ in range(4)]
        one, two, three, four = self.locks
        self.tree = Tree(1, (("a", one), None), (((1, 0), two, (0,)),))

    def test_by_hand(self):
        book, one, two = self.book, self.locks[0], self.locks[1]
        zero, first = book.put("number", (0,)), book.put("number", (1,))
        leaves = book.put("row", (book.put("row", (book.put("name", ("a",)), one)), zero))
        nodes = book.put("row", (book.put("row", (first, zero, two, book.put("row", (zero,)))),))
        term = book.put("row", (book.put("name", ("tree",)), first, leaves, nodes))
        size = book.size()
        self.assertEqual(tree_term(book, self.tree), term)
        self.assertEqual(book.size(), size)
        self.assertEqual(tree_of(book, term), self.tree)

    def test_both_ways(self):
        for seed in range(40):
            tree = grown(random.Random(seed), 20)
            book = Book()
            for _ in range(3000):
                book.fresh()
            term = tree_term(book, tree)
            self.assertEqual(tree_of(book, term), tree)
            self.assertEqual(tree_term(book, tree_of(book, term)), term)
        book = Book()
        book.fresh()
        tree = Tree(8, (None,) * 256, ())
        self.assertEqual(tree_of(book, tree_term(book, tree)), tree)

    def test_locks_that_the_book_has_not(self):
        for tree in (Tree(0, (("a", 8),), ()), Tree(1, (None, ("b", 0)), (((1, 0), 8, ()),)), Tree(0, (("a", 10 ** 39),), ())):
            before = told(self.book)
            self.assertEqual(len(before), 8)
            self.refuses(NoTerm, tree_term, self.book, tree)
            self.assertEqual(told(self.book), before)

    def test_terms_that_tell_none(self):
        book = self.book
        term = tree_term(book, self.tree)
        head, height, leaves, nodes = book.parts(term)
        zero, odd = book.put("number", (0,)), book.put("row", (head,))
        leaf, node = book.parts(leaves)[0], book.parts(nodes)[0]
        name, lock = book.parts(leaf)
        level, at, held, aside = book.parts(node)

        def row(*parts):
            return book.put("row", parts)

        self.assertIsNotNone(tree_of(book, row(head, height, leaves, nodes)))
        wrong = [
            row(head, height, leaves), row(head, height, leaves, nodes, nodes), row(name, height, leaves, nodes),
            row(height, height, leaves, nodes), row(head, zero, leaves, nodes), row(head, name, leaves, nodes),
            row(head, height, nodes, nodes), row(head, height, leaves, leaves), row(head, height, name, nodes),
            row(head, height, leaves, name), row(head, book.put("number", (9,)), leaves, nodes),
            row(head, leaves, height, nodes), book.put("print", (term,)), head, zero, book.fresh(),
        ]
        for other in (row(name), row(name, lock, lock), row(lock, name), name, height, odd, row(height, lock), row(), row(
                book.put("name", ("A",)), lock), row(book.put("name", ("",)), lock), book.put("made", (name, lock))):
            wrong.append(row(head, height, row(other, zero), nodes))
            wrong.append(row(head, height, row(leaf, other), nodes))
        wrong.append(row(head, height, row(leaf, leaf), nodes))
        wrong.append(row(head, height, row(leaf), nodes))
        wrong.append(row(head, height, row(leaf, zero, zero), nodes))
        one = book.put("number", (1,))
        for other in (
            row(level, at, held), row(level, at, held, aside, aside), row(zero, at, held, aside), row(level, one, held, aside),
            row(name, at, held, aside), row(level, name, held, aside), row(level, at, held, name), row(level, at, held, zero),
            row(level, at, held, row(one)), row(level, at, held, row(zero, zero)), row(level, at, held, row(name)), name, zero,
            row(), book.put("made", (level, at)), row(book.put("number", (2,)), zero, held, aside),
        ):
            wrong.append(row(head, height, leaves, row(other)))
        wrong.append(row(head, height, leaves, row(node, node)))
        for other in wrong:
            size = book.size()
            self.assertIsNone(tree_of(book, other))
            self.assertEqual(book.size(), size)
        # What a lock is, is not asked.
        self.assertEqual(tree_of(book, row(head, height, row(row(name, zero), zero), row())), Tree(1, (("a", zero), None), ()))

    def test_no_term(self):
        for term in NO_TERMS + (self.book.size(), deep(40)):
            self.refuses(NoTerm, tree_of, self.book, term)


if __name__ == "__main__":
    unittest.main()
