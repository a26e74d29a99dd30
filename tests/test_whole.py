"""The document once more: its interface, its examples, errors in their order, and that nothing passed is changed."""

import importlib
import inspect
import unittest

from strangerspost import (
    audits, books, booktexts, errors, exprs, images, knowing, lots, papers, rules, scripts, tales, texts, thefts, trees, world, worldrules,
)
from strangerspost.books import Book
from strangerspost.errors import PostError
from strangerspost.knowing import knows, opened
from strangerspost.texts import term_text
from strangerspost.trees import Tree, members, resolution, with_member, without_member
from strangerspost.world import World
from strangerspost.worldrules import hangs, seen_words, would_bar
from tests.things import deep
from tests.worlds import handed, room_of

INTERFACE = {
    "books": ["carried(book, other, terms)"],
    "texts": ["term_text(book, term)", "read_term(book, text)"],
    "knowing": ["knows(book, bag, term)", "makes(book, bag, term)", "opened(book, bag)"],
    "papers": ["is_steps(book, bag, term, thing)", "is_bar(book, bag, term, thing)", "steps(book, bag, term)", "bar(book, bag, term)"],
    "lots": ["enough(book, bags, term)", "keeps(book, bags, term)", "core(book, bag)", "alike(book, bag, other)"],
    "trees": [
        "path(tree, leaf)", "beside(tree, leaf)", "resolution(tree, node)", "members(tree)", "meeting(tree, one, other)",
        "holders(tree, node)", "with_member(tree, name, lock)", "without_member(tree, leaf)", "renewed(tree, leaf, locks)",
        "tree_term(book, tree)", "tree_of(book, term)",
    ],
    "rules": [
        "held(rule, lot)", "enough_of(rule, fact)", "bars_of(rule, fact)", "reasons(rule, lot, fact)", "closed(rule, lot, fact)",
        "rounds(rule, lot, fact)", "needed(rule, lot, fact)", "is_reasons(rule, lot, fact, thing)", "is_closed(rule, lot, fact, thing)",
    ],
    "worldrules": [
        "names(world)", "known(world)", "hangs(world, name)", "would_bar(world, name)", "reach(world, theft)", "seen_words(world)",
        "term_of(world, name)", "rule_of(world)", "can_lead(world, name, e)",
    ],
    "booktexts": ["book_text(book)", "read_book(text)"],
    "images": ["world_image(world)", "restored(text)", "is_image(thing)"],
    "thefts": ["member_image(world, member)", "thief(text)"],
    "exprs": ["is_expr(thing)"],
    "scripts": ["read_script(text)", "script_text(rows)"],
    "tales": ["tale(text)", "played(text)"],
    "audits": [
        "room_of(world, room)", "sides(world, room)", "let_go(world)", "parted(world, room, one, other)", "behind(world, member, room)",
        "readable(world, member, room)", "exposed(world, member, room)",
    ],
}

CLASSES = {
    ("books", "Book()"): ["put(kind, parts)", "fresh()", "size()", "depth(term)", "kind(term)", "parts(term)", "within(terms)", "copy()"],
    ("knowing", "Knower(book)"): [
        "learn(term)", "bag()", "opened()", "knows(term)", "steps(term)", "bar(term)", "copy(book)",
    ],
    ("trees", "Tree(height, leaves, nodes)"): [],
    ("world", "World(names, window, keep)"): [
        "card(member)", "found(member, room)", "put(kind, parts)", "fresh()", "card_as(member)", "change(member, room, wishes)",
        "change_as(member, room, wishes)", "hand(number, member)", "hand_term(term, member)", "steal(member)", "store(member)",
        "view(member, room)", "write(member, room, words)", "write_as(member, room, words)", "leave(member, room)", "rooms(member)",
        "post()", "bag()", "book_now()", "knows(term)", "copy()",
    ],
    ("rules", "Rule(clauses, grounds)"): ["facts()"],
}


def told(name, thing, method):
    """How a function or a method is called."""
    parameters = list(inspect.signature(thing).parameters)
    return f"{name}({', '.join(parameters[1:] if method else parameters)})"


class InterfaceTest(unittest.TestCase):

    def test_functions(self):
        for stem, calls in INTERFACE.items():
            module = importlib.import_module(f"strangerspost.{stem}")
            for call in calls:
                name = call.split("(")[0]
                thing = vars(module)[name]
                self.assertTrue(inspect.isfunction(thing))
                self.assertEqual(told(name, thing, False), call)
                self.assertEqual(thing.__module__, module.__name__)

    def test_classes(self):
        for (stem, made), calls in CLASSES.items():
            module = importlib.import_module(f"strangerspost.{stem}")
            name = made.split("(")[0]
            thing = vars(module)[name]
            self.assertTrue(inspect.isclass(thing))
            self.assertEqual(thing.__module__, module.__name__)
            self.assertEqual(told(name, thing.__init__, True), made)
            for call in calls:
                word = call.split("(")[0]
                self.assertEqual(told(word, vars(thing)[word], True), call)


class ExamplesTest(unittest.TestCase):

    def test_books(self):
        b = Book()
        f = b.fresh()
        n = b.put("name", ("key",))
        k = b.put("made", (n, f))
        g = b.fresh()
        h = b.put("chest", (k, g))
        self.assertEqual((knows(b, (h,), g), knows(b, (h, f), g)), (False, True))
        self.assertEqual((opened(b, (h,)), opened(b, (h, f))), ((1, 4), (0, 1, 2, 3, 4)))
        self.assertEqual(term_text(b, h), 'chest(made(name "key", fresh 0), fresh 1)')

    def test_trees(self):
        t = Tree(0, (("a", 5),), ())
        t = with_member(t, "b", 6)[0]
        t = with_member(t, "c", 7)[0]
        self.assertEqual((t.height, members(t), resolution(without_member(t, 1), (2, 0))), (2, (0, 1, 2), ((0, 0), (0, 2))))

    def test_worlds(self):
        w = World(("a", "b"), 2, 1)
        c = w.card("b")
        w.found("a", "r")
        numbers = w.change("a", "r", (("add", c),))
        handed(w, numbers, "a", "b")
        w.steal("b")
        w.write("a", "r", None)
        # The examples hold of what is restored, too.
        for one in (w, images.restored(images.world_image(w))):
            self.assertEqual((numbers, seen_words(one), hangs(one, ("words", 0))), ((2, 3), [0], [(0,)]))
            x = one.change("b", "r", ())
            handed(one, x, "a", "b")
            one.write("a", "r", None)
            self.assertEqual((one.view("a", "r")[0], seen_words(one), would_bar(one, ("words", 1))), (2, [0], [()]))

    def test_as_a_script(self):
        text = "".join([line + "\n" for line in (
            "world 2 1 a b", "card b", "found a r", "change a r add 0", "hand 2 a", "hand 2 b", "hand 3 a", "hand 3 b", "steal b", "write a r",
        )])
        self.assertEqual(tales.tale(text), [
            "ok", "0", "1", "2 3", "changed r 1", "refused unlike", "refused unlike", "entered r 1", "9", "4",
        ])
        self.assertEqual(seen_words(tales.played(text)), [0])


class ErrorsInOrderTest(unittest.TestCase):

    def first(self, name, call, *given):
        with self.assertRaises(PostError) as caught:
            call(*given)
        self.assertEqual(caught.exception.__class__.__name__, name, given)
        return list(vars(caught.exception).values())

    def test_books_and_what_is_known(self):
        book = Book()
        term = book.fresh()
        for wrong in (None, deep(40), "x", -1, [True]):
            self.first("NoKind", book.put, wrong, wrong)
            self.first("NoParts", book.put, "lock", wrong)
            for call in (book.kind, book.parts, book.depth):
                self.first("NoTerm", call, wrong)
            self.first("NoTerms", book.within, wrong)
            self.first("NoTerms", books.carried, book, Book(), wrong)
            self.first("NoTerm", texts.term_text, book, wrong)
            self.assertEqual(self.first("BadTerm", texts.read_term, book, wrong), [0 if wrong == "x" else -1])
            for call in (knowing.knows, knowing.makes, papers.steps, papers.bar):
                self.first("NoBag", call, book, wrong, wrong)
                self.first("NoTerm", call, book, (term,), wrong)
            for call in (papers.is_steps, papers.is_bar):
                self.first("NoBag", call, book, wrong, wrong, wrong)
                self.first("NoTerm", call, book, (term,), wrong, wrong)
                self.assertIs(call(book, (term,), term, wrong), False)
            for call in (knowing.opened, lots.core):
                self.first("NoBag", call, book, wrong)
            self.first("NoBag", lots.alike, book, wrong, (term,))
            self.first("NoBag", lots.alike, book, (term,), wrong)
            for call in (lots.enough, lots.keeps):
                self.first("NoBags", call, book, wrong, wrong)
                self.first("NoTerm", call, book, [(term,)], wrong)
            knower = knowing.Knower(book)
            for call in (knower.learn, knower.knows, knower.steps, knower.bar):
                self.first("NoTerm", call, wrong)

    def test_trees_and_rules(self):
        tree, full = Tree(0, (("a", 5),), ()), Tree(8, tuple([(name_of(at), 0) for at in range(256)]), ())
        rule = rules.Rule((), ((),))
        for wrong in (None, deep(40), "X", -1, [True]):
            self.assertEqual(self.first("BadTree", Tree, wrong, wrong, wrong), ["height"])
            self.assertEqual(self.first("BadTree", Tree, 0, wrong, wrong), ["leaves"])
            self.assertEqual(self.first("BadTree", Tree, 0, (None,), wrong), ["nodes"])
            for call in (trees.path, trees.beside, without_member):
                self.first("NoLeaf", call, tree, wrong)
            for call in (trees.resolution, trees.holders):
                self.first("NoNode", call, tree, wrong)
            self.first("NoLeaf", trees.meeting, tree, wrong, wrong)
            self.first("NoLeaf", trees.meeting, tree, 0, wrong)
            self.first("NoName", with_member, full, wrong, wrong)
            self.first("NoLock", with_member, full, "aa", wrong)
            self.first("NoLeaf", trees.renewed, tree, wrong, wrong)
            self.first("NoLocks", trees.renewed, tree, 0, wrong)
            self.assertEqual(self.first("BadRule", rules.Rule, wrong, wrong), ["clauses"])
            self.assertEqual(self.first("BadRule", rules.Rule, (wrong,), wrong), ["grounds"])
            self.assertEqual(self.first("BadRule", rules.Rule, (wrong,), (wrong,)), [0])
            self.assertEqual(self.first("BadRule", rules.Rule, (), ((), (wrong,))), [("ground", 1)])
            self.first("NoLot", rules.held, rule, wrong)
            for call in (rules.reasons, rules.closed, rules.rounds, rules.needed):
                self.first("NoLot", call, rule, wrong, wrong)
                self.first("NoFact", call, rule, (), wrong)
            for call in (rules.is_reasons, rules.is_closed):
                self.first("NoLot", call, rule, wrong, wrong, wrong)
                self.first("NoFact", call, rule, (), wrong, wrong)
                self.assertIs(call(rule, (), ("a",), wrong), False)
            many = rules.Rule((), ((),) * 17)
            for call in (rules.enough_of, rules.bars_of):
                self.first("NoFact", call, many, wrong)
                self.assertEqual(self.first("TooMany", call, many, ("a",)), [16])
        self.first("Named", with_member, full, "aa", 0)
        self.first("TreeFull", with_member, full, "other", 0)
        self.first("NoTerm", trees.tree_term, Book(), tree)

    def test_worlds(self):
        one = room_of("ab")
        for wrong in (None, deep(40), "X", -1, [True], ("a", "a")):
            self.assertEqual(self.first("BadWorld", World, wrong, wrong, wrong), ["names"])
            self.assertEqual(self.first("BadWorld", World, ("a",), wrong, wrong), ["window"])
            self.assertEqual(self.first("BadWorld", World, ("a",), 0, wrong), ["keep"])
            for call in (one.card, one.card_as, one.steal, one.store, one.rooms):
                self.first("NoName", call, wrong)
            for call in (one.leave, one.view):
                self.first("NoName", call, wrong, wrong)
                self.first("NoRoom", call, "a", wrong)
            self.first("NoName", one.found, wrong, wrong)
            self.first("NoName", one.found, "a", wrong)
            for call in (one.change, one.change_as, one.write, one.write_as):
                self.first("NoName", call, wrong, wrong, wrong)
                self.first("NoRoom", call, "a", wrong, wrong)
            for call in (one.change, one.change_as):
                self.assertEqual(self.first("BadWish", call, "a", "r", wrong), [0 if isinstance(wrong, tuple) else -1])
            if wrong not in (None, "X"):
                for call in (one.write, one.write_as):
                    self.first("NoWords", call, "a", "r", wrong)
            for call, name in ((one.hand, "NoLetter"), (one.hand_term, "NoTerm")):
                self.first("NoName", call, wrong, wrong)
                self.first(name, call, wrong, "a")
            self.first("NoTerm", one.knows, wrong)
            self.first("NoFact", worldrules.term_of, one, wrong)
            for call in (worldrules.hangs, worldrules.would_bar):
                self.first("NoFact", call, one, wrong)
            self.first("NoTheft", worldrules.reach, one, wrong)
            self.first("NoName", worldrules.can_lead, one, wrong, wrong)
            self.first("NoEpoch", worldrules.can_lead, one, "a", wrong)
            for call in (audits.behind, audits.readable, audits.exposed):
                self.first("NoName", call, one, wrong, wrong)
                self.first("NoRoom", call, one, "a", wrong)
            self.first("NoName", audits.parted, one, wrong, wrong, wrong)
            self.first("NoRoom", audits.parted, one, wrong, "a", wrong)
            self.first("NoName", audits.parted, one, "r", "a", wrong)
            self.first("NoName", thefts.member_image, one, wrong)
        for _ in range(16):
            one.steal("a")
        for call in (worldrules.hangs, worldrules.would_bar):
            self.first("NoFact", call, one, ("none",))
            self.assertEqual(self.first("TooMany", call, one, ("mark", 0)), [15])

    def test_texts(self):
        for wrong in (None, deep(40), -1, [True], b"", Book()):
            for name, calls in (
                ("BadImage", (booktexts.read_book, images.restored, thefts.thief)), ("BadLine", (scripts.read_script, tales.tale, tales.played)),
            ):
                for call in calls:
                    self.assertEqual(self.first(name, call, wrong), [0])
            self.assertEqual(self.first("BadRows", scripts.script_text, wrong), [0 if isinstance(wrong, list) else -1])
            self.assertIs(images.is_image(wrong), False)
            self.assertIs(exprs.is_expr(wrong), False)
        # All of an image is read ahead of what it tells, and a world is there ahead of its soundness.
        self.assertEqual(self.first("BadImage", images.restored, "world 51 51\nbag\nx\n"), [3])
        self.assertEqual(self.first("BadWorld", images.restored, "world 51 51\nterm fresh 0\nbag\nmember a 0\n"), ["window"])
        self.assertEqual(self.first("Unsound", images.restored, "world 50 50\nterm fresh 0\nbag\nmember a 0\n"), [1])


def name_of(at):
    """A name of two letters for each number below 256."""
    return "abcdefghijklmnop"[at // 16] + "abcdefghijklmnop"[at % 16]


class UnchangedTest(unittest.TestCase):

    def test_what_is_passed(self):
        one = room_of("ab")
        one.steal("b")
        image = images.world_image(one)
        book = one.book_now()
        size = book.size()
        for call in (
            lambda: booktexts.book_text(book), lambda: images.world_image(one), lambda: thefts.member_image(one, "a"),
            lambda: audits.room_of(one, "r"), lambda: audits.sides(one, "r"), lambda: audits.parted(one, "r", "a", "b"),
            lambda: audits.behind(one, "a", "r"), lambda: audits.readable(one, "a", "r"), lambda: audits.exposed(one, "a", "r"),
            lambda: audits.let_go(one), lambda: worldrules.names(one), lambda: worldrules.known(one), lambda: worldrules.seen_words(one),
            lambda: worldrules.reach(one, 0), lambda: worldrules.hangs(one, ("seal", 1)), lambda: worldrules.would_bar(one, ("seal", 1)),
        ):
            first = call()
            self.assertEqual(call(), first)
            if isinstance(first, list):
                # What is returned is new each time.
                first.append(None)
                self.assertNotEqual(call(), first)
            self.assertEqual((images.world_image(one), book.size()), (image, size))
        rows = [("world", 1, 1, ("a",)), ("write", "a", "r", None), ("know", ("row", ()))]
        before = list(rows)
        scripts.script_text(rows)
        self.assertEqual(rows, before)

    def test_flags(self):
        one = room_of("ab")
        self.assertIs(images.is_image(images.world_image(one)), True)
        self.assertIs(exprs.is_expr(("number", (True,))), False)
        self.assertIs(exprs.is_expr(("number", (1,))), True)
        for error in (errors.BadImage, errors.Unsound, errors.BadLine, errors.BadRows):
            self.assertTrue(issubclass(error, PostError))
        self.assertEqual(world.World.__module__, "strangerspost.world")


if __name__ == "__main__":
    unittest.main()
