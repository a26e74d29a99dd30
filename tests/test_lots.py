import inspect
import itertools
import random
import unittest

from strangerspost import lots
from strangerspost.books import Book
from strangerspost.errors import NoBag, NoBags, NoTerm, PostError
from strangerspost.knowing import knows, makes, opened
from strangerspost.leastlots import least_lots
from strangerspost.lots import alike, core, enough, keeps
from tests.things import NO_TERMS, deep, drawn_bag, full_book, knot, told, wrong_bags


def all_lots(count):
    """All lots of numbers below a count, the shortest first, then as Python orders."""
    return [lot for size in range(count + 1) for lot in itertools.combinations(range(count), size)]


def least(rows, right):
    """Those of all lots that are right, and no part of which is."""
    found = [lot for lot in rows if right(lot)]
    return [lot for lot in found if not any([set(other) < set(lot) for other in found])]


class LotsCase(unittest.TestCase):

    def refuses(self, book, error, call, *given):
        before = told(book)
        with self.assertRaises(PostError) as caught:
            call(*given)
        self.assertIs(caught.exception.__class__, error)
        self.assertEqual(told(book), before)


class InterfaceTest(unittest.TestCase):

    def test_names(self):
        given = {
            "enough": ["book", "bags", "term"], "keeps": ["book", "bags", "term"], "core": ["book", "bag"],
            "alike": ["book", "bag", "other"],
        }
        for name, parts in given.items():
            self.assertEqual(list(inspect.signature(getattr(lots, name)).parameters), parts)
            self.assertEqual(getattr(lots, name).__module__, "strangerspost.lots")


class EnoughTest(LotsCase):

    def setUp(self):
        book = self.book = Book()
        self.one, self.two, self.secret = book.fresh(), book.fresh(), book.fresh()
        self.key = book.put("made", (self.one, self.two))
        self.chest = book.put("chest", (self.key, self.secret))
        self.name = book.put("name", ("n",))

    def test_no_bag(self):
        self.assertEqual((enough(self.book, [], self.secret), keeps(self.book, [], self.secret)), ([], [()]))
        self.assertEqual((enough(self.book, [], self.name), keeps(self.book, [], self.name)), ([()], []))

    def test_one_bag(self):
        for bag, answer in (((self.secret,), ([(0,)], [(0,)])), ((), ([], [()])), ((self.one,), ([], [()]))):
            self.assertEqual((enough(self.book, [bag], self.secret), keeps(self.book, [bag], self.secret)), answer)

    def test_bags_that_know_it_alone_and_just_together(self):
        bags = [(self.one,), (), (self.two,), (self.secret, self.one), (self.chest,), (self.key,)]
        self.assertEqual(enough(self.book, bags, self.secret), [(3,), (4, 5), (0, 2, 4)])
        self.assertEqual(keeps(self.book, bags, self.secret), [(3, 4), (0, 3, 5), (2, 3, 5)])

    def test_what_everybody_knows_and_what_nobody_does(self):
        bags = [(self.one,), (self.two,)]
        self.assertEqual((enough(self.book, bags, self.name), keeps(self.book, bags, self.name)), ([()], []))
        self.assertEqual((enough(self.book, bags, self.secret), keeps(self.book, bags, self.secret)), ([], [()]))

    def test_the_same_bag_more_than_once(self):
        bags = [(self.secret,), (self.secret,), (self.secret,)]
        self.assertEqual(enough(self.book, bags, self.secret), [(0,), (1,), (2,)])
        self.assertEqual(keeps(self.book, bags, self.secret), [(0, 1, 2)])

    def test_a_dozen_and_thirteen(self):
        bags = [(self.one,), (self.two,), (self.chest,)] * 4
        found = enough(self.book, bags, self.secret)
        self.assertEqual(len(found), 64)
        self.assertEqual(found, sorted(found))
        self.assertEqual(keeps(self.book, bags, self.secret), [(0, 3, 6, 9), (1, 4, 7, 10), (2, 5, 8, 11)])
        for call in (enough, keeps):
            self.refuses(self.book, NoBags, call, self.book, bags + [()], self.secret)
            self.refuses(self.book, NoBags, call, self.book, [()] * 13, -1)

    def test_wrong_inputs(self):
        book, _ = full_book()
        for call in (enough, keeps):
            for bag in wrong_bags(book):
                self.refuses(book, NoBags, call, book, [(), bag], 0)
                self.refuses(book, NoBags, call, book, [bag], -1)
            for bags in ((), ((),), ((0,),), None, 0, {}, {(): ()}, "", b"", range(0), True, Book(), deep(40)):
                self.refuses(book, NoBags, call, book, bags, 0)
                self.refuses(book, NoBags, call, book, bags, "")
            for term in NO_TERMS + (book.size(),):
                self.refuses(book, NoTerm, call, book, [(0,)], term)
                self.refuses(book, NoTerm, call, book, [], term)

    def test_beside_a_trial_of_all_lots(self):
        for seed in range(150):
            chance = random.Random(seed)
            book = knot(chance, chance.randrange(5, 18))
            bags = [drawn_bag(chance, book, 3) for _ in range(chance.randrange(6))]
            before = [tuple(bag) for bag in bags]
            term = chance.randrange(book.size())
            rows = all_lots(len(bags))
            known = {lot: knows(book, tuple([part for at in lot for part in bags[at]]), term) for lot in rows}
            others = {lot: tuple([at for at in range(len(bags)) if at not in lot]) for lot in rows}
            self.assertEqual(enough(book, bags, term), least(rows, lambda lot: known[lot]))
            self.assertEqual(keeps(book, bags, term), least(rows, lambda lot: not known[others[lot]]))
            self.assertEqual(bags, before)

    def test_new_lists(self):
        bags = [(self.secret,)]
        enough(self.book, bags, self.secret).append(0)
        self.assertEqual(enough(self.book, bags, self.secret), [(0,)])


class LeastLotsTest(unittest.TestCase):

    def test_beside_a_trial_of_all_lots(self):
        for seed in range(300):
            chance = random.Random(seed)
            count = chance.randrange(7)
            base = [{at for at in range(count) if chance.random() < 0.4} for _ in range(chance.randrange(6))]
            rows = all_lots(count)
            right = {lot: any([part <= set(lot) for part in base]) for lot in rows}
            others = {lot: tuple([at for at in range(count) if at not in lot]) for lot in rows}
            found = least_lots(count, lambda lot: right[tuple(lot)])
            self.assertEqual(found[0], least(rows, lambda lot: right[lot]))
            self.assertEqual(found[1], least(rows, lambda lot: not right[others[lot]]))


class CoreTest(LotsCase):

    def setUp(self):
        book = self.book = Book()
        self.key, self.secret = book.fresh(), book.fresh()
        self.name = book.put("name", ("n",))
        self.made = book.put("made", (self.name, self.key))
        self.chest = book.put("chest", (self.made, self.secret))
        self.print = book.put("print", (self.secret,))
        self.row = book.put("row", (self.print, self.name))

    def test_by_hand(self):
        book = self.book
        self.assertEqual(core(book, ()), ())
        self.assertEqual(core(book, (self.name,)), ())
        self.assertEqual(core(book, (book.put("row", ()),)), ())
        self.assertEqual(core(book, (self.secret, self.secret, self.key)), (self.key, self.secret))
        self.assertEqual(core(book, (self.chest,)), (self.chest,))
        self.assertEqual(core(book, (self.chest, self.key)), (self.key, self.secret))
        self.assertEqual(core(book, (self.chest, self.made)), (self.secret, self.made))
        self.assertEqual(core(book, (self.row,)), (self.print,))
        self.assertEqual(core(book, (self.row, self.secret, self.print)), (self.secret,))

    def test_alike_by_hand(self):
        book = self.book
        for bag, other in (
            ((), (self.name,)), ((self.chest, self.key), (self.secret, self.key)), ((self.row,), (self.print, self.print)),
            ((self.made, self.key), (self.key,)),
        ):
            self.assertIs(alike(book, bag, other), True)
            self.assertIs(alike(book, other, bag), True)
        for bag, other in (
            ((), (self.key,)), ((self.chest,), (self.secret,)), ((self.made,), (self.key,)), ((self.row,), (self.secret,)),
        ):
            self.assertIs(alike(book, bag, other), False)
            self.assertIs(alike(book, other, bag), False)

    def test_errors(self):
        book, _ = full_book()
        for bag in wrong_bags(book):
            self.refuses(book, NoBag, core, book, bag)
            self.refuses(book, NoBag, alike, book, bag, (0,))
            self.refuses(book, NoBag, alike, book, (0,), bag)
            self.refuses(book, NoBag, alike, book, bag, bag)

    def test_drawn_bags(self):
        for seed in range(300):
            chance = random.Random(seed)
            book = knot(chance, chance.randrange(4, 18))
            bag, other = drawn_bag(chance, book), drawn_bag(chance, book)
            found, heart = opened(book, bag), core(book, bag)
            self.assertEqual(heart, tuple([
                term for term in found if not makes(book, tuple([part for part in found if part != term]), term)
            ]))
            known = [knows(book, bag, term) for term in range(book.size())]
            self.assertEqual([makes(book, heart, term) for term in range(book.size())], known)
            self.assertTrue(alike(book, bag, heart))
            self.assertTrue(alike(book, bag, found))
            same = all([knows(book, other, term) for term in bag]) and all([knows(book, bag, term) for term in other])
            self.assertIs(alike(book, bag, other), same)
            self.assertIs(core(book, other) == heart, same)
            for term in heart:
                fewer = tuple([part for part in heart if part != term])
                self.assertFalse(makes(book, fewer, term))


if __name__ == "__main__":
    unittest.main()
