import inspect
import itertools
import random
import unittest

from strangerspost import worldrules
from strangerspost.errors import NoEpoch, NoFact, NoName, NoTheft, TooMany
from strangerspost.knowing import learner, opened
from strangerspost.leading import least_of
from strangerspost.ledger import Ledger
from strangerspost.papers import bar, is_bar, is_steps, steps
from strangerspost.rules import Rule, closed, held, is_closed, is_reasons, reasons
from strangerspost.world import World
from strangerspost.worldrules import (
    can_lead, hangs, known, names, reach, rule_of, seen_words, term_of, would_bar,
)
from tests.histories import History
from tests.test_rules import NO_FACTS
from tests.worlds import NO_WORDS, Hand, WorldCase, handed, joined, room_of

NO_NUMBERS = (-1, True, False, None, "", "0", b"0", (), (0,), [0], {}, range(1), Rule((), ()), 10 ** 39)


def by_terms(world):
    return {term_of(world, name): name for name in names(world)}


def all_grounds(rule):
    return tuple(range(len(rule.grounds)))


def store_names(world, store):
    told = by_terms(world)
    return tuple(sorted([told[term] for term in store if term in told]))


def plain_clauses(world):
    """The clauses that THE FACT OF CLAUSES tells, of all that lies in the post."""
    book, told = world.book_now(), by_terms(world)
    there = set(told.values())
    found = set()

    def clause(body, head):
        if head in there and all([one in there for one in body]):
            found.add((tuple(sorted(body)), head))

    for name in there:
        word, rest = name[0], name[1:]
        if word == "path":
            further = ("path", rest[0], rest[1] + 1)
            clause((name,), ("node",) + rest)
            clause((name,), further if further in there else ("root", rest[0]))
        elif word == "join":
            clause((name,), ("epoch",) + rest)
            _, keys = book.parts(term_of(world, name))
            clause([told.get(key) for key in book.parts(keys)], name)
        elif word == "epoch":
            for other in ("chain", "letters", "seal"):
                clause((name,), (other,) + rest)
        elif word == "turn":
            clause((name,), ("key",) + rest)
            clause((name,), ("turn", rest[0], rest[1], rest[2] + 1))
            if rest[2] == 0:
                clause((("letters", rest[0]),), name)
    change = 0
    for term in world.post():
        kind, parts = book.kind(term), book.parts(term)
        if kind == "box":
            entry = told[book.parts(parts[0])[0]]
            welcome = book.parts(book.parts(parts[1])[1])
            clause((entry,), told.get(welcome[1]))
            clause((entry,), told.get(welcome[2]))
        elif kind == "row" and len(parts) == 3 and book.kind(parts[0]) == "mark":
            levels = book.parts(book.parts(book.parts(parts[0])[1])[5])
            for at, level in enumerate(levels):
                for box in book.parts(book.parts(level)[1]):
                    clause((told.get(book.parts(book.parts(box)[0])[0]),), ("path", change, at + 1))
            change += 1
        elif kind == "row" and book.parts(parts[0]) == ("letter",):
            key, content = book.parts(parts[4])
            words = book.parts(book.parts(content)[1])[4]
            if book.kind(words) == "fresh":
                clause((told.get(key),), told.get(words))
    return tuple(sorted(found))


class InterfaceTest(unittest.TestCase):

    def test_names(self):
        given = {
            "names": ["world"], "known": ["world"], "hangs": ["world", "name"], "would_bar": ["world", "name"],
            "reach": ["world", "theft"], "seen_words": ["world"], "term_of": ["world", "name"], "rule_of": ["world"],
            "can_lead": ["world", "name", "e"],
        }
        for name, parts in given.items():
            self.assertEqual(list(inspect.signature(getattr(worldrules, name)).parameters), parts)
            self.assertEqual(getattr(worldrules, name).__module__, "strangerspost.worldrules")


class ExamplesTest(unittest.TestCase):

    def test_both(self):
        w = World(("a", "b"), 2, 1)
        c = w.card("b")
        w.found("a", "r")
        numbers = w.change("a", "r", (("add", c),))
        handed(w, numbers, "a", "b")
        w.steal("b")
        w.write("a", "r", None)
        self.assertEqual((numbers, seen_words(w), hangs(w, ("words", 0))), ((2, 3), [0], [(0,)]))
        x = w.change("b", "r", ())
        handed(w, x, "a", "b")
        w.write("a", "r", None)
        self.assertEqual((w.view("a", "r")[0], seen_words(w), would_bar(w, ("words", 1))), (2, [0], [()]))


class NamesTest(WorldCase):

    def test_a_new_world(self):
        world = World(("a", "b"), 2, 1)
        self.assertEqual(names(world), [("mark", 0), ("mark", 1)])
        self.assertEqual([term_of(world, ("mark", at)) for at in (0, 1)], [world.store(name)[0] for name in "ab"])
        self.assertEqual(rule_of(world), Rule((), ((),)))
        self.assertEqual((known(world), seen_words(world)), ([], []))

    def test_a_small_history(self):
        world = World(("a", "b"), 2, 1)
        world.card("b")
        world.found("a", "r")
        key = world.held["a"].joined["r"].held[(0, 0)]
        leaf, entry = world.held["b"].cards[0][1:]
        chain = world.held["a"].joined["r"].chain
        seal = world.held["a"].joined["r"].seal
        numbers = world.change("a", "r", (("add", 0),))
        start = world.held["a"].joined["r"].pending[1]
        handed(world, numbers)
        number, words = world.write("b", "r", None)
        world.write("b", "r", "text")
        last = world.write("b", "r", None)
        world.hand(last[0], "a")
        hand, book = Hand(world), world.book_now()
        epoch_key = [term for term in range(book.size()) if hand.made("chain", term) == chain][0]
        ways = hand.up(start, 1)
        book = world.book_now()
        (joiner,) = [term for term in range(book.size()) if hand.made("seal", hand.made("epoch", term)) == world.view("a", "r")[3]]
        second = hand.made("epoch", joiner)
        told = {
            ("mark", 0): world.held["a"].marks, ("mark", 1): world.held["b"].marks, ("leaf", 0): leaf, ("entry", 0): entry,
            ("first", 0): key, ("epoch", 0): epoch_key, ("chain", 0): chain, ("seal", 0): seal,
            ("letters", 0): hand.made("letters", epoch_key), ("turn", 0, 0, 0): hand.turn(0, 0, epoch_key),
            ("path", 0, 0): start, ("path", 0, 1): ways[1], ("node", 0, 0): hand.made("node", start),
            ("node", 0, 1): hand.made("node", ways[1]), ("root", 0): hand.made("root", ways[1]),
            ("join", 1): joiner, ("epoch", 1): second, ("words", 0): words, ("words", 2): last[1],
        }
        for word in ("chain", "letters", "seal"):
            told[(word, 1)] = hand.made(word, second)
        for leaf, place in ((0, 0), (1, 0), (1, 1), (1, 2), (1, 3)):
            told[("turn", 1, leaf, place)] = hand.turn(leaf, place, second)
        for place in range(3):
            told[("key", 1, 1, place)] = hand.made("key", hand.turn(1, place, second))
        self.assertEqual(names(world), sorted(told))
        self.assertEqual({name: term_of(world, name) for name in names(world)}, told)
        self.assertEqual(rule_of(world).clauses, plain_clauses(world))

    def test_numbers_of_epochs_and_changes(self):
        world = room_of("abc")
        (one,) = world.change("a", "r", ())
        (two,) = world.change("b", "r", ())
        world.found("c", "s")
        # Changes count from where they are made, epochs too, be they taken or not.
        self.assertTrue({("path", 2, 0), ("path", 3, 0), ("join", 3), ("join", 4), ("first", 5)} <= set(names(world)))
        self.assertNotIn(("join", 5), names(world))
        before = names(world)
        handed(world, (two,))
        self.assertEqual(names(world), before)
        handed(world, (one,))
        self.assertEqual(names(world), before)

    def test_what_is_not_taken_is_not_named(self):
        world = room_of("ab", 3, 1)
        before = names(world)
        number = world.write("a", "r", None)[0]
        world.write("a", "r", None)
        after = set(names(world)) - set(before)
        self.assertEqual(after, {
            ("key", 1, 0, 0), ("key", 1, 0, 1), ("turn", 1, 0, 1), ("turn", 1, 0, 2), ("words", 0), ("words", 1)})
        world.hand(number, "b")
        self.assertEqual(set(names(world)) - set(before), after)

    def test_names_that_are_none(self):
        world = room_of("ab")
        for name in NO_FACTS + (("mark", 2), ("mark",), ("mark", 0, 0), ("leaf", 1), ("join", 0), ("words", 0), ("x", 1)):
            for call in (term_of, hangs, would_bar):
                self.refuses(NoFact, world, call, world, name)

    def test_new_lists(self):
        world = room_of("ab")
        before = names(world)
        for call in (names, known, seen_words):
            call(world).append(0)
        self.assertEqual(names(world), before)


class StrangersNamesTest(WorldCase):

    def test_deeds_in_the_place_of_members(self):
        world = room_of("ab")
        world.steal("b")
        before = set(names(world))
        world.card_as("b")
        self.assertEqual(set(names(world)) - before, {("leaf", 1), ("entry", 1)})
        world.change_as("b", "r", ())
        told = set(names(world))
        self.assertTrue({("path", 1, 0), ("path", 1, 1), ("node", 1, 0), ("root", 1), ("join", 2), ("turn", 2, 0, 0)} <= told)
        number, words = world.write_as("b", "r", None)
        self.assertEqual(set(names(world)) - told, {("words", 0), ("key", 1, 1, 0)})
        world.write_as("b", "r", "x")
        self.assertNotIn(("words", 1), names(world))
        rule = rule_of(world)
        openly = {("leaf", 1), ("entry", 1), ("path", 1, 0), ("path", 1, 1), ("node", 1, 0), ("node", 1, 1), ("root", 1)}
        self.assertEqual(set(rule.grounds[0]), openly | {("words", 0)})
        self.assertIn(((("chain", 1),), ("join", 2)), rule.clauses)
        self.assertEqual(seen_words(world), [0])
        self.assertEqual((hangs(world, ("words", 0)), would_bar(world, ("words", 0))), ([()], []))
        self.assertEqual((hangs(world, ("join", 2)), would_bar(world, ("join", 2))), ([(0,)], [(0,)]))

    def test_what_is_handed_is_open(self):
        world = room_of("ab")
        world.steal("b")
        seal = world.view("b", "r")[3]
        self.assertEqual(hangs(world, ("seal", 1)), [(0,)])
        world.hand_term(seal, "a")
        self.assertEqual(hangs(world, ("seal", 1)), [()])
        self.assertEqual(rule_of(world).grounds[0], (("seal", 1),))
        self.assertIn(("seal", 1), rule_of(world).grounds[1])
        self.assertEqual(hangs(world, ("chain", 1)), [(0,)])

    def made_up_room(self, secret=False):
        """A world in which a has entered a room that the stranger made up in the place of b."""
        world = World(("a", "b"), 2, 1)
        world.card("a")
        world.steal("b")
        hand = Hand(world)
        key, entry = world.held["a"].cards[0][1:]
        start, joiner = world.fresh(), world.fresh()
        hidden = hand.print(world.held["b"].marks) if secret else hand.name("begin")
        ways = hand.up(start, 1)
        nodes = {(1, 0): (hand.lock(hand.made("node", ways[1])), [])}
        tree = hand.tree(1, [("a", hand.lock(key)), ("b", hand.lock(hidden))], nodes)
        context = hand.context("r", 3, tree, hidden)
        row = hand.row("welcome", joiner, ways[1], hand.number(0), hand.number(1), context, tree)
        box = hand.box(hand.lock(entry), hand.mark(world.held["b"].marks, row))
        self.assertEqual(world.hand_term(box, "a"), ("entered", "r", 3))
        return world, context, tree, hand.made("node", ways[1])

    def test_rooms_made_up(self):
        world, context, tree, node = self.made_up_room()
        self.assertEqual(names(world), sorted([("mark", 0), ("mark", 1), ("leaf", 0), ("entry", 0)] + [
            (word, 0) for word in ("join", "epoch", "chain", "letters", "seal")] + [("turn", 0, 0, 0), ("turn", 0, 1, 0)]))
        world.steal("a")
        # The node's key has no name, as no change tells it; it is known openly, so it needs none.
        self.assertNotIn(("other", 0), names(world))
        self.assertEqual(rule_of(world).grounds[2], store_names(world, world.ledger.thefts[1]))
        self.assertEqual(reach(world, 1), [0])
        self.assertEqual(reach(world, 0), [])

    def test_other_terms(self):
        world, context, tree, node = self.made_up_room(True)
        world.steal("a")
        others = sorted((context, tree))
        self.assertEqual([term_of(world, ("other", at)) for at in (0, 1)], others)
        self.assertNotIn(("other", 2), names(world))
        for at in (0, 1):
            self.assertEqual(hangs(world, ("other", at)), [(0,), (1,)])
        world.steal("a")
        self.assertNotIn(("other", 2), names(world))
        self.assertTrue({("other", 0), ("other", 1)} <= set(rule_of(world).grounds[3]))
        # What is known openly later keeps its name.
        world.hand_term(tree, "a")
        self.assertEqual([term_of(world, ("other", at)) for at in (0, 1)], others)
        self.assertEqual(hangs(world, ("other", others.index(tree))), [()])

    def test_a_change_that_nobody_made(self):
        # The stranger boxes p(1) alone to a: p(0) and k(0) are nobody's, so they have no names.
        world = room_of("ab")
        world.steal("b")
        hand = Hand(world)
        number, context, tree, seal, own = world.view("b", "r")
        room = world.held["b"].joined["r"]
        start, other = world.fresh(), world.fresh()
        node = hand.lock(hand.made("node", start))
        box = hand.box(tree.leaves[0][1], start)
        levels = hand.row(hand.row(node, hand.row(box)))
        body = hand.row("change", hand.print(context), hand.number(1), hand.row(), hand.lock(other), levels)
        marked = hand.mark(world.held["b"].marks, body)
        leaves = [tree.leaves[0], ("b", hand.lock(other))]
        trail = world.book_now().parts(context)[4]
        after = hand.context("r", 2, hand.tree(1, leaves, {(1, 0): (node, [])}), hand.print(hand.row(trail, marked)))
        letter = hand.row(marked, hand.print(hand.row(room.seal, marked)), hand.print(after))
        before = set(names(world))
        self.assertEqual(world.hand_term(letter, "b"), ("refused", "box"))
        self.assertEqual(set(names(world)), before)
        self.assertEqual(world.hand_term(letter, "a"), ("changed", "r", 2))
        self.assertEqual(set(names(world)) - before, {
            ("path", 1, 1), ("node", 1, 1), ("root", 1), ("turn", 2, 0, 0), ("turn", 2, 1, 0)} | {
            (word, 2) for word in ("join", "epoch", "chain", "letters", "seal")})
        self.assertEqual(term_of(world, ("path", 1, 1)), start)

    def test_a_term_has_its_first_name_alone(self):
        # p(1) of a made-up change is the chain of the epoch ahead, which has a name; so p(1) gets none.
        world = room_of("ab")
        world.steal("b")
        hand = Hand(world)
        number, context, tree, seal, own = world.view("b", "r")
        room = world.held["b"].joined["r"]
        start, other = room.chain, world.fresh()
        node = hand.lock(hand.made("node", start))
        levels = hand.row(hand.row(node, hand.row(hand.box(tree.leaves[0][1], start))))
        body = hand.row("change", hand.print(context), hand.number(1), hand.row(), hand.lock(other), levels)
        marked = hand.mark(world.held["b"].marks, body)
        leaves = [tree.leaves[0], ("b", hand.lock(other))]
        trail = world.book_now().parts(context)[4]
        after = hand.context("r", 2, hand.tree(1, leaves, {(1, 0): (node, [])}), hand.print(hand.row(trail, marked)))
        letter = hand.row(marked, hand.print(hand.row(room.seal, marked)), hand.print(after))
        self.assertEqual(world.hand_term(letter, "a"), ("changed", "r", 2))
        self.assertNotIn(("path", 1, 1), names(world))
        self.assertIn(("node", 1, 1), names(world))
        self.assertEqual(term_of(world, ("chain", 1)), start)
        self.assertIn(((("chain", 1),), ("node", 1, 1)), rule_of(world).clauses)


class ClausesTest(WorldCase):

    def test_without_deeds_of_the_stranger(self):
        rows = set()
        for seed in range(80):
            history = History(random.Random(seed), ("a", "b", "c", "d")[:2 + seed % 3], False)
            world = history.go(90)
            rule = rule_of(world)
            self.assertEqual(rule.grounds[0], ())
            self.assertEqual(rule.clauses, plain_clauses(world))
            self.assertEqual(rule.grounds[1:], tuple([store_names(world, store) for store in world.ledger.thefts]))
            for store in world.ledger.thefts:
                told = by_terms(world)
                everybody = learner(world.book, tuple(world.post()))
                self.assertTrue(all([everybody.knows(term) for term in store if term not in told]))
            rows.update([(tuple([fact[0] for fact in body]), head[0]) for body, head in rule.clauses])
        for body, head in (
            ("path", "node"), ("path", "path"), ("path", "root"), ("node", "path"), ("leaf", "path"),
            ("entry", "join"), ("entry", "path"), ("chain root", "join"), ("join", "epoch"), ("epoch", "seal"),
            ("letters", "turn"), ("turn", "key"), ("turn", "turn"), ("key", "words"),
        ):
            self.assertIn((tuple(body.split()), head), rows)


class MainFactTest(WorldCase):

    def test_all_that_is_known(self):
        seen = set()
        for seed in range(250):
            history = History(random.Random(seed), ("a", "b", "c")[:2 + seed % 2], seed % 5 > 0)
            world = history.go(random.Random(seed).randrange(20, 130))
            rule = rule_of(world)
            told = {fact: True for fact in held(rule, all_grounds(rule))}
            for name in names(world):
                self.assertIs(name in told, world.knows(term_of(world, name)), (seed, name))
            self.assertEqual(known(world), [name for name in names(world) if name in told])
            self.assertEqual(rule.clauses, tuple(sorted(set(rule.clauses))))
            seen.update([outcome[0] for name, outcome in history.told if name == "hand" and isinstance(outcome, tuple)])
        self.assertTrue({"changed", "entered", "words", "refused"} <= seen)

    def test_each_lot_of_thefts(self):
        for seed in range(250, 300):
            history = History(random.Random(seed), ("a", "b", "c"), seed % 3 > 0)
            world = history.go(80)
            thefts = world.ledger.thefts
            rule = rule_of(world)
            numbers = range(min(4, len(thefts)))
            for lot in [lot for size in range(len(numbers) + 1) for lot in itertools.combinations(numbers, size)]:
                told = held(rule, (0,) + tuple([theft + 1 for theft in lot]))
                bag = tuple(world.openly.bag())
                knower = learner(world.book, bag + tuple([term for theft in lot for term in thefts[theft]]))
                for name in names(world):
                    self.assertIs(name in told, knower.knows(term_of(world, name)), (seed, lot, name))

    def test_reasons_tell_steps_and_closed_collections_bars(self):
        for seed in range(330, 360):
            history = History(random.Random(seed), ("a", "b", "c"), True)
            world = history.go(60)
            rule = rule_of(world)
            lot, bag, book = all_grounds(rule), tuple(world.bag()), world.book_now()
            for name in names(world)[::5]:
                way, wall = reasons(rule, lot, name), closed(rule, lot, name)
                term = term_of(world, name)
                if way is not None:
                    self.assertTrue(is_reasons(rule, lot, name, way))
                    self.assertTrue(is_steps(book, bag, term, steps(book, bag, term)))
                else:
                    self.assertTrue(is_closed(rule, lot, name, wall))
                    self.assertTrue(is_bar(book, bag, term, bar(book, bag, term)))
                    self.assertEqual(bar(book, bag, term), opened(book, bag))

    def test_hangs_and_would_bar(self):
        for seed in range(360, 400):
            history = History(random.Random(seed), ("a", "b", "c"), seed % 2 == 0)
            world = history.go(70)
            count = len(world.ledger.thefts)
            if count > 4:
                continue
            rule = rule_of(world)
            rows = [lot for size in range(count + 1) for lot in itertools.combinations(range(count), size)]
            told = {lot: held(rule, (0,) + tuple([theft + 1 for theft in lot])) for lot in rows}
            for name in names(world)[seed % 9::9]:
                right = [lot for lot in rows if name in told[lot]]
                walls = [lot for lot in rows if name not in told[tuple([at for at in range(count) if at not in lot])]]
                for call, lots in ((hangs, right), (would_bar, walls)):
                    least = [lot for lot in lots if not any([set(other) < set(lot) for other in lots])]
                    self.assertEqual(call(world, name), least)


class LeadingTest(WorldCase):

    def leads(self, world, lot, head):
        """Whether names lead to another one, by trying each rule until nothing is new."""
        book = world.book
        told = by_terms(world)
        goal = term_of(world, head)
        have = set(world.openly.bag()) | {term_of(world, name) for name in lot}
        barred = {term for term in told if not world.openly.knows(term) and term not in have and term != goal}
        near = book.within(tuple(have) + (goal,))
        led = set(have)
        grown = True
        while grown:
            count = len(led)
            for term in near:
                kind, parts = book.kind(term), book.parts(term)
                found = []
                if kind in ("name", "number") or (kind != "fresh" and set(parts) <= led):
                    found.append(term)
                if term in led and kind == "row":
                    found.extend(parts)
                elif term in led and kind in ("mark", "chest", "box"):
                    key = parts[0] if kind == "chest" else None
                    if kind == "box" and book.kind(parts[0]) == "lock":
                        key = book.parts(parts[0])[0]
                    if kind == "mark" or key in led:
                        found.append(parts[1])
                led.update([part for part in found if part not in barred])
            grown = len(led) > count
        return goal in led

    def test_beside_a_plain_trial(self):
        count = 0
        for seed in range(60):
            history = History(random.Random(seed), ("a", "b", "c")[:2 + seed % 2], True)
            world = history.go(45)
            clauses = rule_of(world).clauses
            openly = [name for name in names(world) if world.openly.knows(term_of(world, name))]
            self.assertEqual(rule_of(world).grounds[0], tuple(openly))
            secret = [name for name in names(world) if name not in openly]
            for body, head in history.chance.sample(clauses, min(12, len(clauses))):
                self.assertTrue(self.leads(world, body, head))
                for name in body:
                    self.assertFalse(self.leads(world, [other for other in body if other != name], head))
                count += 1
            for _ in range(10 if len(secret) > 4 else 0):
                lot = history.chance.sample(secret, 3)
                head = lot.pop()
                covered = any([other == head and set(body) <= set(lot) for body, other in clauses])
                self.assertIs(self.leads(world, lot, head), covered)
        self.assertGreater(count, 300)

    def test_least_lots(self):
        self.assertEqual(least_of([]), [])
        self.assertEqual(least_of([3, 1, 2, 1, 6]), [1, 2])
        self.assertEqual(least_of([6, 5, 3]), [6, 5, 3])
        self.assertEqual(least_of([7, 6, 5, 0]), [0])

    def test_a_lesser_lot_found_late(self):
        # A chest with two keys, one within the other, holds the marks' key of a; another way to it needs one alone.
        world = room_of("ab")
        world.steal("b")
        world.steal("a")
        hand = Hand(world)
        chain, seal = term_of(world, ("chain", 1)), term_of(world, ("seal", 1))
        goal = world.held["a"].marks
        both = hand.chest(chain, hand.chest(seal, goal))
        world.hand_term(both, "a")
        self.assertIn(((("chain", 1), ("seal", 1)), ("mark", 0)), rule_of(world).clauses)
        way = seal
        for _ in range(5):
            other = world.fresh()
            world.hand_term(hand.chest(way, hand.mark(other, hand.row(hand.print(way), other))), "a")
            way = hand.print(way)
        world.hand_term(hand.chest(way, goal), "a")
        clauses = [clause for clause in rule_of(world).clauses if clause[1] == ("mark", 0)]
        self.assertEqual(clauses, [((("seal", 1),), ("mark", 0))])

    def test_a_name_and_a_term_once(self):
        ledger = Ledger()
        ledger.give(("a", 0), 5)
        ledger.give(("a", 0), 6)
        ledger.give(("b", 0), 5)
        ledger.give(("c", 0), 6)
        self.assertEqual((ledger.terms, ledger.names), ({("a", 0): 5, ("c", 0): 6}, {5: ("a", 0), 6: ("c", 0)}))


class CopiesTest(WorldCase):

    def told(self, world):
        rule = rule_of(world)
        return names(world), known(world), rule.clauses, rule.grounds, seen_words(world), [
            reach(world, theft) for theft in range(len(world.ledger.thefts))]

    def test_copies_tell_the_same_and_go_on_apart(self):
        for seed in range(20):
            one = History(random.Random(seed), ("a", "b", "c"), True)
            world = one.go(50)
            before = self.told(world)
            two = History(random.Random(seed), ("a", "b", "c"), True)
            two.world = world.copy()
            self.assertEqual(self.told(two.world), before)
            two.go(40)
            self.assertEqual(self.told(world), before)
            after = self.told(two.world)
            apart = two.world.copy()
            one.go(40)
            self.assertEqual(self.told(two.world), after)
            for copy in (two.world, apart):
                again = History(random.Random(seed), ("a", "b", "c"), True)
                again.world = copy
                again.go(40)
            self.assertEqual(self.told(two.world), self.told(apart))


class AskingTest(WorldCase):

    def test_thefts_one_behind_another(self):
        world = room_of("abc")
        world.steal("a")
        world.steal("b")
        self.assertEqual(hangs(world, ("chain", 2)), [(0,), (1,)])
        self.assertEqual(would_bar(world, ("chain", 2)), [(0, 1)])
        self.assertEqual(hangs(world, ("mark", 0)), [(0,)])
        self.assertEqual((hangs(world, ("mark", 2)), would_bar(world, ("mark", 2))), ([], [()]))
        handed(world, world.change("c", "r", ()))
        # c's change is boxed to both of them.
        self.assertEqual(hangs(world, ("chain", 3)), [(0,), (1,)])
        handed(world, world.change("a", "r", ()))
        self.assertEqual(hangs(world, ("chain", 4)), [(1,)])
        self.assertEqual(would_bar(world, ("chain", 4)), [(1,)])

    def test_sixteen_thefts(self):
        world = room_of("ab")
        for _ in range(15):
            world.steal("a")
        self.assertEqual(hangs(world, ("chain", 1)), [(theft,) for theft in range(15)])
        self.assertEqual(would_bar(world, ("chain", 1)), [tuple(range(15))])
        world.steal("b")
        for call in (hangs, would_bar):
            self.assertEqual(self.refuses(TooMany, world, call, world, ("chain", 1)).most, 15)
            self.refuses(NoFact, world, call, world, ("chain", 7))
        self.assertEqual(reach(world, 15), [1])
        self.assertIn(("chain", 1), known(world))

    def test_seen_words(self):
        world = room_of("ab")
        world.write("a", "r", None)
        world.write("a", "r", "text")
        self.assertEqual(seen_words(world), [])
        world.steal("b")
        self.assertEqual(seen_words(world), [0])
        world.write("b", "r", None)
        world.write("a", "r", None)
        self.assertEqual(seen_words(world), [0, 2, 3])
        handed(world, world.change("b", "r", ()))
        world.write("a", "r", None)
        self.assertEqual(seen_words(world), [0, 2, 3])

    def test_can_lead(self):
        world = room_of("ab")
        self.assertIs(can_lead(world, "a", 1), False)
        world.steal("b")
        for name, epoch, answer in (("b", 1, True), ("a", 1, False), ("b", 0, False), ("a", 0, False)):
            self.assertIs(can_lead(world, name, epoch), answer)
        world.change_as("b", "r", ())
        self.assertIs(can_lead(world, "b", 2), True)
        world.steal("a")
        self.assertIs(can_lead(world, "a", 1), True)
        self.assertIs(can_lead(world, "a", 0), False)
        for name in NO_WORDS:
            self.refuses(NoName, world, can_lead, world, name, 1)
            self.refuses(NoName, world, can_lead, world, name, None)
        for epoch in NO_NUMBERS + (3,):
            self.refuses(NoEpoch, world, can_lead, world, "b", epoch)

    def test_no_theft(self):
        world = room_of("ab")
        self.refuses(NoTheft, world, reach, world, 0)
        world.steal("a")
        for theft in NO_NUMBERS + (1,):
            self.refuses(NoTheft, world, reach, world, theft)


class ReachTest(WorldCase):

    def test_what_is_gone(self):
        world = room_of("abc", 2, 1)
        for _ in range(3):
            world.write("a", "r", None)
            handed(world, world.change("b", "r", ()))
        world.steal("c")
        # Epoch 5 is its own, 4 it keeps; of those ahead it tells nothing.
        self.assertEqual(reach(world, 0), [4, 5])
        self.assertEqual(seen_words(world), [2])

    def test_what_is_gone_of_a_kept_epoch(self):
        world = room_of("ab", 2, 1)
        numbers = [world.write("a", "r", None)[0] for _ in range(3)]
        world.hand(numbers[1], "b")
        handed(world, world.change("b", "r", ()))
        world.steal("b")
        # Key 0 is kept, key 1 was let go of, turn 2 stands there.
        self.assertEqual(seen_words(world), [0, 2])

    def test_cards_tell_of_welcomes_ahead(self):
        world = World(("a", "b"), 2, 0)
        world.found("a", "r")
        handed(world, world.change("a", "r", (("add", world.card("b")),)), "a")
        world.write("a", "r", None)
        handed(world, world.change("a", "r", ()))
        world.steal("b")
        # The card is not used up, as the welcome was never handed to b; and from there on its leaf's key goes on.
        self.assertEqual(reach(world, 0), [1, 2])
        self.assertEqual(seen_words(world), [0])

    def test_healing_by_an_own_change(self):
        world = room_of("abc", 2, 0)
        world.steal("b")
        handed(world, world.change("a", "r", ()))
        handed(world, world.change("c", "r", ()))
        self.assertEqual(reach(world, 0), [2, 3, 4])
        handed(world, world.change("b", "r", ()))
        handed(world, world.change("a", "r", ()))
        self.assertEqual(reach(world, 0), [2, 3, 4])

    def test_a_pending_change_does_not_heal(self):
        world = room_of("abc", 2, 0)
        numbers = world.change("b", "r", ())
        world.steal("b")
        handed(world, numbers)
        handed(world, world.change("a", "r", ()))
        self.assertEqual(reach(world, 0), [2, 3, 4])
        handed(world, world.change("b", "r", ()))
        self.assertEqual(reach(world, 0), [2, 3, 4])

    def test_removal(self):
        world = room_of("abc", 2, 0)
        world.steal("b")
        leaf = world.view("b", "r")[4]
        handed(world, world.change("a", "r", (("remove", leaf),)))
        world.write("a", "r", None)
        handed(world, world.change("c", "r", ()))
        world.steal("b")
        self.assertEqual((reach(world, 0), reach(world, 1), seen_words(world)), ([2], [], []))
        # A card of its own that is added again tells from there on.
        joined(world, "a", "r", "b")
        handed(world, world.change("c", "r", ()))
        world.steal("b")
        self.assertEqual((reach(world, 0), reach(world, 1), reach(world, 2)), ([2], [], [6]))

    def test_an_old_card(self):
        world = World(("a", "b"), 2, 1)
        world.found("a", "r")
        card = world.card("b")
        world.steal("b")
        handed(world, world.change("a", "r", (("add", card),)))
        handed(world, world.change("a", "r", ()))
        self.assertEqual(reach(world, 0), [1, 2])
        handed(world, world.change("b", "r", ()))
        self.assertEqual(reach(world, 0), [1, 2])

    def test_forks(self):
        world = room_of("abc", 2, 0)
        world.steal("c")
        (one,) = world.change("a", "r", ())
        (two,) = world.change("b", "r", ())
        world.hand(one, "a")
        world.hand(two, "b")
        # Both ways are open to what c holds, whichever it takes.
        self.assertEqual(reach(world, 0), [2, 3, 4])


if __name__ == "__main__":
    unittest.main()
