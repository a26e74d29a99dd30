import inspect
import itertools
import random
import unittest

from strangerspost import knowing
from strangerspost.books import Book, carried
from strangerspost.errors import NoBag, NoTerm, PostError
from strangerspost.knowing import Knower, knows, makes, opened
from strangerspost.papers import bar, is_bar, is_steps, steps
from tests.things import NO_TERMS, deep, drawn_bag, full_book, knot, plainly_known, told, wrong_bags


class KnowingCase(unittest.TestCase):

    def refuses(self, book, error, call, *given):
        """A call raises just this error, and the book is as it was."""
        before = told(book)
        with self.assertRaises(PostError) as caught:
            call(*given)
        self.assertIs(caught.exception.__class__, error)
        self.assertEqual(told(book), before)


class InterfaceTest(unittest.TestCase):

    def test_names(self):
        for name in ("learn", "bag", "knows", "opened", "steps", "bar", "copy"):
            self.assertIn(name, vars(Knower))
        for name in ("knows", "makes"):
            self.assertEqual(list(inspect.signature(getattr(knowing, name)).parameters), ["book", "bag", "term"])
        self.assertEqual(list(inspect.signature(knowing.opened).parameters), ["book", "bag"])
        self.assertEqual(list(inspect.signature(Knower).parameters), ["book"])
        self.assertEqual(list(inspect.signature(Knower.copy).parameters), ["self", "book"])
        for name in ("knows", "makes", "opened", "Knower"):
            self.assertEqual(getattr(knowing, name).__module__, "strangerspost.knowing")


class OpeningTest(KnowingCase):

    def setUp(self):
        self.book = Book()
        self.key, self.content, self.other = self.book.fresh(), self.book.fresh(), self.book.fresh()

    def told_of(self, bag, term):
        answer = knows(self.book, bag, term)
        self.assertIs(answer, term in plainly_known(self.book, bag, (term,)))
        return answer

    def test_the_examples(self):
        book = Book()
        f = book.fresh()
        n = book.put("name", ("key",))
        k = book.put("made", (n, f))
        g = book.fresh()
        h = book.put("chest", (k, g))
        self.assertEqual((knows(book, (h,), g), knows(book, (h, f), g)), (False, True))
        self.assertEqual((opened(book, (h,)), opened(book, (h, f))), ((1, 4), (0, 1, 2, 3, 4)))

    def test_the_empty_bag(self):
        name, empty = self.book.put("name", ("",)), self.book.put("row", ())
        row = self.book.put("row", (name, self.book.put("number", (3,)), empty))
        for term in (name, empty, row):
            self.assertIs(knows(self.book, (), term), True)
            self.assertIs(makes(self.book, (), term), True)
        for term in (self.key, self.book.put("row", (name, self.key))):
            self.assertIs(knows(self.book, (), term), False)
            self.assertIs(makes(self.book, (), term), False)
        self.assertEqual(opened(self.book, ()), ())

    def test_rows(self):
        row = self.book.put("row", (self.key, self.content, self.key))
        for term in (self.key, self.content):
            self.assertTrue(self.told_of((row,), term))
        self.assertFalse(self.told_of((row,), self.other))

    def test_chests(self):
        chest = self.book.put("chest", (self.key, self.content))
        self.assertFalse(self.told_of((chest,), self.content))
        self.assertFalse(self.told_of((chest, self.other), self.content))
        self.assertTrue(self.told_of((chest, self.key), self.content))
        self.assertTrue(self.told_of((self.key, chest), self.content))
        self.assertFalse(self.told_of((chest, self.content), self.key))

    def test_boxes(self):
        lock = self.book.put("lock", (self.key,))
        box = self.book.put("box", (lock, self.content))
        for bag, answer in (((box,), False), ((box, lock), False), ((box, self.key), True), ((self.key, box), True)):
            self.assertIs(self.told_of(bag, self.content), answer)
        self.assertFalse(self.told_of((box,), lock))
        self.assertFalse(self.told_of((lock,), self.key))

    def test_a_box_whose_lock_is_no_lock_is_never_opened(self):
        for lock in (self.key, self.book.put("print", (self.key,)), self.book.put("row", (self.key,))):
            box = self.book.put("box", (lock, self.content))
            self.assertFalse(self.told_of((box, lock, self.key), self.content))

    def test_marks(self):
        mark = self.book.put("mark", (self.key, self.content))
        self.assertTrue(self.told_of((mark,), self.content))
        self.assertFalse(self.told_of((mark,), self.key))

    def test_nothing_is_read_of_these(self):
        for kind, parts in (("made", 2), ("lock", 1), ("print", 1)):
            term = self.book.put(kind, (self.key, self.content)[:parts])
            self.assertFalse(self.told_of((term,), self.key))
            self.assertFalse(self.told_of((term,), self.content))
            self.assertEqual(opened(self.book, (term,)), (term,))

    def test_each_way_of_making(self):
        kinds = {"row": 2, "made": 2, "lock": 1, "box": 2, "chest": 2, "mark": 2, "print": 1}
        for kind, count in kinds.items():
            parts = (self.key, self.content)[:count]
            term = self.book.put(kind, parts)
            for lack in range(count):
                self.assertFalse(self.told_of(parts[:lack] + parts[lack + 1:], term), kind)
                self.assertFalse(makes(self.book, parts[:lack] + parts[lack + 1:], term), kind)
            self.assertTrue(self.told_of(parts, term), kind)
            self.assertTrue(makes(self.book, parts, term), kind)
            self.assertTrue(self.told_of((term,), term), kind)
            self.assertTrue(makes(self.book, (term,), term), kind)

    def test_fresh_ones_are_never_made(self):
        for bag in ((), (self.other,), (self.book.put("number", (0,)),)):
            self.assertFalse(self.told_of(bag, self.key))
            self.assertFalse(makes(self.book, bag, self.key))
        self.assertTrue(makes(self.book, (self.key,), self.key))

    def test_makes_opens_nothing(self):
        row = self.book.put("row", (self.key,))
        mark = self.book.put("mark", (self.other, self.content))
        chest = self.book.put("chest", (self.key, self.content))
        for bag, term in (((row,), self.key), ((mark,), self.content), ((chest, self.key), self.content)):
            self.assertIs(knows(self.book, bag, term), True)
            self.assertIs(makes(self.book, bag, term), False)

    def test_keys_that_are_opened_or_made_later(self):
        book = self.book
        key = book.put("made", (book.put("name", ("n",)), book.put("print", (self.other,))))
        chest = book.put("chest", (key, self.content))
        box = book.put("box", (book.put("lock", (self.content,)), book.put("row", (self.key,))))
        hidden = book.put("mark", (self.key, book.put("row", (self.other,))))
        for bag in itertools.permutations((chest, box, hidden)):
            self.assertTrue(self.told_of(bag, self.key))
            self.assertFalse(self.told_of(bag[:2], self.key))

    def test_what_can_be_made_far_off(self):
        term = self.book.put("lock", (self.book.put("row", (self.key, self.book.put("name", ("x",)))),))
        self.assertTrue(self.told_of((self.book.put("row", (self.key,)),), term))
        self.assertNotIn(term, opened(self.book, (self.key,)))

    def test_errors(self):
        book, terms = full_book()
        for call in (knows, makes, steps, bar):
            for bag in wrong_bags(book):
                self.refuses(book, NoBag, call, book, bag, 0)
                self.refuses(book, NoBag, call, book, bag, -1)
            for term in NO_TERMS + (book.size(), deep(40)):
                self.refuses(book, NoTerm, call, book, (), term)
                self.refuses(book, NoTerm, call, book, (0, 1), term)
        for bag in wrong_bags(book):
            self.refuses(book, NoBag, opened, book, bag)


class OpenedTest(KnowingCase):

    def test_by_hand(self):
        book, terms = full_book()
        self.assertEqual(opened(book, (terms["mark"],)), (terms["name"], terms["number"], terms["box"], terms["mark"]))
        self.assertEqual(opened(book, (terms["lock"],)), (terms["lock"],))
        self.assertEqual(opened(book, (terms["print"],)), (1, 2, 9))
        self.assertEqual(opened(book, (terms["print"], terms["fresh"])), (0, 1, 2, 3, 5, 6, 8, 9))
        self.assertEqual(opened(book, (terms["fresh"],)), (0,))

    def test_what_can_be_made_and_stands_within(self):
        book = Book()
        key, other = book.fresh(), book.fresh()
        row = book.put("row", (key, book.put("name", ("x",))))
        held = book.put("print", (row,))
        far = book.put("lock", (key,))
        self.assertEqual(opened(book, (held, key)), (key, 2, row, held))
        self.assertEqual(opened(book, (held,)), (2, held))
        self.assertNotIn(far, opened(book, (held, key)))
        self.assertTrue(knows(book, (held, key), far))
        self.assertNotIn(other, opened(book, (held, key)))

    def test_terms_twice_in_a_bag(self):
        book, terms = full_book()
        self.assertEqual(opened(book, (0, 0, 5, 0)), (0, 5))

    def test_a_chain_of_chests(self):
        book = Book()
        keys = [book.fresh() for _ in range(4001)]
        chests = [book.put("chest", (keys[at], keys[at + 1])) for at in range(4000)]
        bag = tuple(chests)
        self.assertFalse(knows(book, bag, keys[-1]))
        self.assertTrue(knows(book, bag + (keys[0],), keys[-1]))
        self.assertFalse(knows(book, bag[:2000] + bag[2001:] + (keys[0],), keys[-1]))
        self.assertEqual(opened(book, bag + (keys[0],)), tuple(range(book.size())))
        right = steps(book, bag + (keys[0],), keys[-1])
        self.assertTrue(is_steps(book, bag + (keys[0],), keys[-1], right))
        self.assertTrue(is_bar(book, bag, keys[-1], bar(book, bag, keys[-1])))

    def test_long_rows(self):
        book = Book()
        items = [book.fresh() for _ in range(400)]
        row = book.put("row", tuple(items))
        again = book.put("print", (book.put("row", tuple(items[::-1])),))
        self.assertEqual(opened(book, (row,)), tuple(range(401)))
        self.assertTrue(knows(book, (row,), again))
        self.assertFalse(knows(book, (again,), row))
        self.assertTrue(is_steps(book, (row,), again, steps(book, (row,), again)))

    def test_deep_terms(self):
        book = Book()
        seed, key = book.fresh(), book.fresh()
        term = seed
        for at in range(3000):
            term = book.put("row", (term,)) if at % 2 else book.put("mark", (key, term))
        self.assertTrue(knows(book, (term,), seed))
        self.assertFalse(knows(book, (seed,), term))
        self.assertTrue(knows(book, (seed, key), term))
        self.assertTrue(makes(book, (seed, key), term))
        for bag, end in (((term,), seed), ((key, seed), term)):
            self.assertTrue(is_steps(book, bag, end, steps(book, bag, end)))
        self.assertEqual(len(opened(book, (term,))), 3001)


class DrawnTest(KnowingCase):

    def test_beside_a_plain_trial(self):
        for seed in range(400):
            chance = random.Random(seed)
            book = knot(chance, chance.randrange(4, 22))
            before = told(book)
            bag = drawn_bag(chance, book)
            within = book.within(bag)
            known = plainly_known(book, bag, range(book.size()))
            self.assertEqual(opened(book, bag), tuple(sorted(known & set(within))))
            for term in range(book.size()):
                self.assertIs(knows(book, bag, term), term in known)
            self.assertEqual(told(book), before)

    def test_just_one_of_steps_and_bar(self):
        for seed in range(400, 700):
            chance = random.Random(seed)
            book = knot(chance, chance.randrange(4, 20))
            bag = drawn_bag(chance, book)
            for term in range(book.size()):
                way, wall = steps(book, bag, term), bar(book, bag, term)
                self.assertIs(way is None, not knows(book, bag, term))
                self.assertIs(wall is None, knows(book, bag, term))
                if way is not None:
                    near = book.within(bag + (term,))
                    led = [triple[2] for triple in way]
                    self.assertTrue(is_steps(book, bag, term, way))
                    self.assertEqual(led[-1], term)
                    self.assertTrue(all([part in near for part in led]))
                    self.assertEqual(len(set(led)), len(led))
                else:
                    self.assertEqual(wall, opened(book, bag))
                    self.assertTrue(is_bar(book, bag, term, wall))

    def test_what_is_known_of_carried_terms(self):
        for seed in range(700, 800):
            chance = random.Random(seed)
            book = knot(chance, chance.randrange(4, 20))
            other = knot(chance, 6)
            bag = drawn_bag(chance, book)
            terms = bag + drawn_bag(chance, book)
            numbers = carried(book, other, terms)
            there = tuple([numbers[term] for term in bag])
            for term in numbers:
                self.assertIs(knows(other, there, numbers[term]), knows(book, bag, term))
            self.assertEqual(opened(other, there), tuple(sorted([numbers[term] for term in opened(book, bag)])))


class KnowerTest(KnowingCase):

    def agrees(self, book, knower):
        bag = knower.bag()
        self.assertEqual(knower.opened(), opened(book, bag))
        for term in range(book.size()):
            self.assertIs(knower.knows(term), knows(book, bag, term))
            self.assertEqual(knower.bar(term), bar(book, bag, term))
            way = knower.steps(term)
            self.assertIs(way is None, not knower.knows(term))
            if way is not None:
                self.assertTrue(is_steps(book, bag, term, way))

    def test_what_opens_behind_and_ahead(self):
        book = Book()
        key, content = book.fresh(), book.fresh()
        chest = book.put("chest", (key, content))
        one = Knower(book)
        self.assertEqual((one.bag(), one.opened()), ((), ()))
        self.assertEqual(one.learn(chest), (chest,))
        self.assertEqual(one.learn(key), (key, content))
        self.assertEqual(one.learn(content), ())
        self.assertEqual(one.learn(content), ())
        self.assertEqual(one.bag(), (chest, key, content))
        other = Knower(book)
        self.assertEqual(other.learn(key), (key,))
        self.assertEqual(other.learn(chest), (content, chest))
        self.assertEqual(other.bag(), (key, chest))
        self.agrees(book, one)
        self.agrees(book, other)

    def test_what_was_known_but_not_near(self):
        book = Book()
        key = book.fresh()
        lock = book.put("lock", (key,))
        knower = Knower(book)
        knower.learn(key)
        self.assertTrue(knower.knows(lock))
        self.assertEqual(knower.opened(), (key,))
        self.assertEqual(knower.learn(lock), (lock,))
        name = book.put("name", ("n",))
        row = book.put("row", (name, lock))
        self.assertEqual(knower.learn(row), (name, row))

    def test_a_book_that_grows(self):
        book = Book()
        key = book.fresh()
        knower = Knower(book)
        knower.learn(key)
        lock = book.put("lock", (key,))
        secret = book.fresh()
        box = book.put("box", (lock, secret))
        row = book.put("row", (box, book.fresh()))
        self.assertTrue(knower.knows(lock))
        self.assertFalse(knower.knows(box))
        self.assertEqual(knower.learn(row), tuple(range(1, book.size())))
        self.agrees(book, knower)
        made = book.put("made", (secret, key))
        chest = book.put("chest", (made, book.fresh()))
        self.assertEqual(knower.learn(chest), (made, book.parts(chest)[1], chest))
        self.agrees(book, knower)

    def test_errors(self):
        book, _ = full_book()
        knower = Knower(book)
        knower.learn(1)
        for term in NO_TERMS + (book.size(), deep(40)):
            for call in (knower.learn, knower.knows, knower.steps, knower.bar):
                self.refuses(book, NoTerm, call, term)
        self.assertEqual((knower.bag(), knower.opened()), ((1,), (1,)))
        late = book.fresh()
        self.assertEqual(knower.learn(late), (late,))

    def test_drawn_learnings(self):
        for seed in range(150):
            chance = random.Random(seed)
            book = knot(chance, 5)
            knower = Knower(book)
            learned = []
            for _ in range(6):
                grown = carried(knot(chance, 5), book, (1, 2, 3))
                for _ in range(3):
                    parts = tuple([chance.randrange(book.size()) for _ in range(2)])
                    book.put(chance.choice(("chest", "box", "made", "row")), parts)
                    book.put("box", (book.put("lock", parts[:1]), parts[1]))
                term = chance.randrange(book.size())
                before = knower.opened()
                self.assertEqual(before, opened(book, tuple(learned)))
                if term not in learned:
                    learned.append(term)
                new = knower.learn(term)
                self.assertEqual(knower.bag(), tuple(learned))
                self.assertEqual(knower.opened(), opened(book, tuple(learned)))
                self.assertEqual(new, tuple(sorted(set(knower.opened()) - set(before))))
                self.assertTrue(grown)
            self.agrees(book, knower)
            chance.shuffle(learned)
            other = Knower(book)
            for term in learned:
                other.learn(term)
            self.assertEqual(other.opened(), knower.opened())
            self.agrees(book, other)

    def test_copies_go_on_apart(self):
        for seed in range(60):
            chance = random.Random(seed)
            book = knot(chance, 14)
            one = Knower(book)
            for term in drawn_bag(chance, book):
                one.learn(term)
            apart = book.copy()
            other = one.copy(apart)
            self.agrees(apart, other)
            held, also = one.bag(), other.bag()
            self.assertEqual(held, also)
            new = apart.put("chest", (apart.fresh(), apart.fresh()))
            for term in drawn_bag(chance, book) + (new, apart.parts(new)[0]):
                other.learn(term)
            self.assertEqual((one.bag(), one.opened()), (held, opened(book, held)))
            self.agrees(apart, other)
            late = book.put("row", (book.fresh(), 0))
            for term in drawn_bag(chance, book) + (late,):
                one.learn(term)
            self.agrees(book, one)
            self.agrees(apart, other)


if __name__ == "__main__":
    unittest.main()
