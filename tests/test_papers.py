import inspect
import random
import unittest

from strangerspost import papers
from strangerspost.books import Book
from strangerspost.errors import NoBag, NoTerm, PostError
from strangerspost.knowing import knows, makes, opened
from strangerspost.papers import bar, is_bar, is_steps, steps
from tests.things import NO_TERMS, deep, drawn_bag, full_book, knot, wrong_bags


class InterfaceTest(unittest.TestCase):

    def test_names(self):
        for name in ("is_steps", "is_bar", "steps", "bar"):
            call = getattr(papers, name)
            given = ["book", "bag", "term", "thing"][:4 if name.startswith("is_") else 3]
            self.assertEqual(list(inspect.signature(call).parameters), given)
            self.assertEqual(call.__module__, "strangerspost.papers")


class StepsCase(unittest.TestCase):

    def setUp(self):
        book = self.book = Book()
        self.key, self.secret = book.fresh(), book.fresh()
        self.name, self.number = book.put("name", ("n",)), book.put("number", (4,))
        self.row = book.put("row", (self.key, self.secret, self.key))
        self.lock = book.put("lock", (self.key,))
        self.box = book.put("box", (self.lock, self.secret))
        self.chest = book.put("chest", (self.key, self.secret))
        self.mark = book.put("mark", (self.key, self.secret))
        self.empty = book.put("row", ())
        self.odd = book.put("box", (self.key, self.secret))
        self.made = book.put("made", (self.name, self.secret))
        self.print = book.put("print", (self.secret,))

    def right(self, bag, term, thing):
        self.assertIs(is_steps(self.book, bag, term, thing), True, thing)

    def wrong(self, bag, term, thing):
        self.assertIs(is_steps(self.book, bag, term, thing), False, thing)


class EachRuleTest(StepsCase):

    def test_have_and_plain(self):
        self.right((self.key,), self.key, (("have", (), self.key),))
        self.wrong((), self.key, (("have", (), self.key),))
        self.wrong((self.secret,), self.key, (("have", (), self.key),))
        self.wrong((self.key,), self.key, (("have", (0,), self.key),))
        self.right((), self.name, (("plain", (), self.name),))
        self.right((), self.number, (("plain", (), self.number),))
        for term in (self.key, self.empty, self.row, self.print):
            self.wrong((term,), term, (("plain", (), term),))
        self.wrong((), self.name, (("have", (), self.name),))
        self.wrong((), self.name, (("plain", (), self.number), ("plain", (0,), self.name)))

    def test_item(self):
        have = ("have", (), self.row)
        for term in (self.key, self.secret):
            self.right((self.row,), term, (have, ("item", (0,), term)))
        for term in (self.row, self.name):
            self.wrong((self.row,), term, (have, ("item", (0,), term)))
        for origin in ((), (0, 0), (1,)):
            self.wrong((self.row,), self.key, (have, ("item", origin, self.key)))
        for other in (self.mark, self.chest, self.lock, self.print, self.made):
            self.wrong((other,), self.secret, (("have", (), other), ("item", (0,), self.secret)))
            self.wrong((other,), self.key, (("have", (), other), ("item", (0,), self.key)))

    def test_unmark(self):
        have = ("have", (), self.mark)
        self.right((self.mark,), self.secret, (have, ("unmark", (0,), self.secret)))
        self.wrong((self.mark,), self.key, (have, ("unmark", (0,), self.key)))
        self.wrong((self.mark,), self.secret, (have, ("item", (0,), self.secret)))
        self.wrong((self.mark,), self.secret, (have, ("unmark", (0, 0), self.secret)))
        for other in (self.row, self.chest, self.print, self.box):
            self.wrong((other,), self.secret, (("have", (), other), ("unmark", (0,), self.secret)))

    def test_unchest_and_unbox(self):
        for whole, rule in ((self.chest, "unchest"), (self.box, "unbox")):
            bag = (whole, self.key, self.name)
            have, key, name = ("have", (), whole), ("have", (), self.key), ("have", (), self.name)
            self.right(bag, self.secret, (have, key, (rule, (0, 1), self.secret)))
            self.right(bag, self.secret, (key, have, (rule, (1, 0), self.secret)))
            self.wrong(bag, self.secret, (key, have, (rule, (0, 1), self.secret)))
            self.wrong(bag, self.secret, (have, name, (rule, (0, 1), self.secret)))
            self.wrong(bag, self.secret, (have, key, (rule, (0, 0), self.secret)))
            self.wrong(bag, self.secret, (have, key, (rule, (0,), self.secret)))
            self.wrong(bag, self.secret, (have, key, (rule, (0, 1, 1), self.secret)))
            self.wrong(bag, self.key, (have, key, (rule, (0, 1), self.key)))
            self.wrong(bag, self.name, (have, key, (rule, (0, 1), self.name)))
            self.wrong(bag, self.secret, (have, (rule, (0, 1), self.secret), key))
        bag = (self.chest, self.box, self.key, self.odd)
        rows = tuple([("have", (), term) for term in bag])
        self.wrong(bag, self.secret, rows + (("unbox", (0, 2), self.secret),))
        self.wrong(bag, self.secret, rows + (("unchest", (1, 2), self.secret),))
        self.wrong(bag, self.secret, rows + (("unbox", (3, 2), self.secret),))
        bag = (self.box, self.lock)
        self.wrong(bag, self.secret, (("have", (), self.box), ("have", (), self.lock), ("unbox", (0, 1), self.secret)))

    def test_build(self):
        book, bag = self.book, (self.key, self.secret)
        rows = (("have", (), self.key), ("have", (), self.secret), ("plain", (), self.name))
        origins = {
            self.row: (0, 1, 0), self.lock: (0,), self.chest: (0, 1), self.mark: (0, 1), self.odd: (0, 1),
            self.made: (2, 1), self.print: (1,), self.empty: (),
        }
        for term, origin in origins.items():
            self.right(bag, term, rows + (("build", origin, term),))
            self.wrong(bag, term, rows + (("build", origin + (0,), term),))
            if origin:
                self.wrong(bag, term, rows + (("build", origin[:-1], term),))
                self.wrong(bag, term, rows + (("build", origin[:-1] + (3,), term),))
            if origin[::-1] != origin:
                self.wrong(bag, term, rows + (("build", origin[::-1], term),))
        self.right(bag, self.box, rows + (("build", (0,), self.lock), ("build", (3, 1), self.box)))
        self.wrong(bag, self.name, rows + (("build", (), self.name),))
        self.wrong(bag, self.key, rows[1:] + (("build", (), self.key),))
        self.assertTrue(makes(book, bag, self.box))

    def test_a_fresh_one_is_not_built_of_its_number(self):
        # The parts of fresh 0 and number 0 hold a 0, which is here a term's number as well.
        book = Book()
        fresh, zero = book.fresh(), book.put("number", (0,))
        self.assertFalse(is_steps(book, (fresh,), zero, (("have", (), fresh), ("build", (0,), zero))))
        other = book.fresh()
        row = (("plain", (), zero), ("build", (0,), other))
        self.assertFalse(is_steps(book, (), other, row))


class OneThingOtherwiseTest(StepsCase):

    def setUp(self):
        super().setUp()
        self.bag = (self.chest, self.row)
        self.way = (
            ("have", (), self.row), ("item", (0,), self.key), ("have", (), self.chest),
            ("unchest", (2, 1), self.secret), ("plain", (), self.name), ("build", (4, 3), self.made),
        )

    def test_right(self):
        self.right(self.bag, self.made, self.way)
        self.right(self.bag, self.secret, self.way[:4])
        # Nothing forbids steps that are not needed, nor a term twice.
        self.right(self.bag, self.made, self.way + (("have", (), self.row), ("build", (4, 3), self.made)))

    def test_the_last_step_leads_elsewhere(self):
        for term in range(self.book.size()):
            self.assertIs(is_steps(self.book, self.bag, term, self.way), term == self.made)
        self.wrong(self.bag, self.made, self.way + (("have", (), self.row),))

    def test_left_out_twice_and_turned(self):
        for at in range(len(self.way)):
            self.wrong(self.bag, self.made, self.way[:at] + self.way[at + 1:])
        for at in range(len(self.way) - 1):
            self.wrong(self.bag, self.made, (self.way[0],) * (at + 1) + self.way)
        self.wrong(self.bag, self.made, self.way[::-1])
        self.wrong(self.bag, self.made, (self.way[1], self.way[0]) + self.way[2:])
        self.wrong(self.bag, self.made, ())

    def test_each_part_otherwise(self):
        for at, (rule, origin, term) in enumerate(self.way):
            others = [(other, origin, term) for other in ("", "Have", "have ", "open", "row", b"have", None, 0, ["have"])]
            others += [(rule, list(origin), term), (rule, None, term), (rule, "", term), (rule, 0, term)]
            others += [(rule, origin + (6,), term), (rule, origin + (-1,), term), (rule, origin + (at,), term)]
            others += [(rule, origin, other) for other in NO_TERMS + (self.book.size(),)]
            others += [[rule, origin, term], (rule, origin), (rule, origin, term, 0), (), None, rule, at, deep(38)]
            for other in others:
                self.wrong(self.bag, self.made, self.way[:at] + (other,) + self.way[at + 1:])

    def test_flags_are_no_numbers(self):
        # Python takes True for 1 and False for 0 in a comparison.
        self.wrong(self.bag, self.made, self.way[:1] + (("item", (False,), self.key),) + self.way[2:])
        self.wrong(self.bag, self.made, self.way[:3] + (("unchest", (2, True), self.secret),) + self.way[4:])
        self.right((self.secret,), self.secret, (("have", (), 1),))
        self.wrong((self.secret,), self.secret, (("have", (), True),))

    def test_things_that_are_none(self):
        things = NO_TERMS + wrong_bags(self.book) + (list(self.way), {0: self.way}, deep(40), (deep(39),), (self.way,))
        for thing in things:
            if thing != ():
                self.wrong(self.bag, self.made, thing)

    def test_errors(self):
        book, _ = full_book()
        for call in (is_steps, is_bar):
            for bag in wrong_bags(book):
                with self.assertRaises(NoBag):
                    call(book, bag, 0, ())
                with self.assertRaises(NoBag):
                    call(book, bag, -1, None)
            for term in NO_TERMS + (book.size(),):
                with self.assertRaises(NoTerm) as caught:
                    call(book, (0,), term, ())
                self.assertIsInstance(caught.exception, PostError)


class BarTest(StepsCase):

    def bars(self, bag, term, thing):
        self.assertIs(is_bar(self.book, bag, term, thing), True, thing)

    def bars_not(self, bag, term, thing):
        self.assertIs(is_bar(self.book, bag, term, thing), False, thing)

    def test_right_ones(self):
        self.bars((), self.key, ())
        self.bars((), self.row, ())
        self.bars((self.chest,), self.secret, (self.chest,))
        self.bars((self.chest,), self.secret, (self.chest, self.box))
        self.bars((self.chest,), self.secret, (self.name, self.chest))
        self.bars((self.chest, self.chest), self.secret, (self.chest,))
        self.bars((), self.secret, (self.key,))
        self.bars((), self.key, (self.mark, self.secret))
        self.bars((self.odd,), self.secret, (self.odd, self.key))

    def test_the_bag_must_be_there(self):
        self.bars_not((self.key,), self.secret, ())
        self.bars_not((self.key, self.name), self.secret, (self.key,))
        # Not even what everybody can make may lack.
        self.bars_not((self.name,), self.secret, (self.key,))

    def test_what_is_opened_must_be_there(self):
        self.bars_not((), self.secret, (self.row,))
        self.bars_not((), self.name, (self.row, self.key))
        self.bars_not((), self.made, (self.row, self.key))
        self.bars((), self.print, (self.key,))
        self.bars_not((), self.key, (self.mark,))
        other = self.book.fresh()
        for whole in (self.chest, self.box):
            self.bars((), other, (whole,))
            self.bars_not((), other, (whole, self.key))
            self.bars((), other, (whole, self.key, self.secret))
        self.bars((), other, (self.row, self.key, self.secret))
        self.bars_not((), other, (self.row, self.key))
        self.bars((), other, (self.mark, self.secret))
        self.bars((), other, (self.odd, self.key))

    def test_keys_that_can_be_made(self):
        book = self.book
        other, content = book.fresh(), book.fresh()
        key = book.put("made", (self.name, self.key))
        chest = book.put("chest", (key, content))
        box = book.put("box", (book.put("lock", (key,)), content))
        for whole in (chest, box):
            self.bars((), other, (whole,))
            self.bars_not((), other, (whole, self.key))
            self.bars((), other, (whole, self.key, content))
            self.bars_not((), other, (whole, key))
        plain = book.put("chest", (self.name, content))
        self.bars_not((), other, (plain,))
        self.bars((), other, (plain, content))

    def test_what_is_barred_can_not_be_made(self):
        self.bars_not((), self.name, ())
        self.bars_not((self.secret,), self.secret, (self.secret,))
        self.bars_not((), self.print, (self.secret,))
        self.bars_not((), self.made, (self.secret,))
        self.bars((), self.made, (self.key,))

    def test_things_that_are_none(self):
        size = self.book.size()
        for thing in wrong_bags(self.book) + ((0, 0), (0, 1, 0), (size,), (0, True), (False,), [self.key], deep(40)):
            self.bars_not((), self.made, thing)

    def test_one_term_more_or_fewer(self):
        for seed in range(200):
            chance = random.Random(seed)
            book = knot(chance, chance.randrange(4, 18))
            bag = drawn_bag(chance, book)
            term = chance.randrange(book.size())
            wall = bar(book, bag, term)
            if wall is None:
                self.assertFalse(is_bar(book, bag, term, opened(book, bag)))
                continue
            self.assertFalse(is_bar(book, bag, term, wall + (term,)))
            self.assertFalse(is_bar(book, bag, term, list(wall)))
            self.assertTrue(is_bar(book, bag, term, wall[::-1]))
            for at, part in enumerate(wall):
                self.assertFalse(is_bar(book, bag, term, wall + (part,)))
                if not makes(book, wall[:at] + wall[at + 1:], part):
                    shorter = wall[:at] + wall[at + 1:]
                    # What cannot be made of the others was opened of them or is the bag's: it may not lack.
                    closed = part not in bag and not knows(book, shorter, part)
                    self.assertIs(is_bar(book, bag, term, shorter), closed)

    def test_bar_is_what_is_opened(self):
        self.assertEqual(bar(self.book, (self.chest, self.name), self.secret), (self.name, self.chest))
        self.assertIsNone(bar(self.book, (self.chest, self.key), self.secret))
        self.assertIsNone(steps(self.book, (self.chest,), self.secret))
        self.assertEqual(bar(self.book, (), self.secret), ())


if __name__ == "__main__":
    unittest.main()
