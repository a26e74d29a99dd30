import inspect
import random
import unittest

from strangerspost import books
from strangerspost.books import Book
from strangerspost.errors import NoKind, NoParts, NoTerm, NoTerms, PostError
from tests.things import NO_TERMS, deep, full_book, random_book, told

COUNTS = {"made": 2, "lock": 1, "box": 2, "chest": 2, "mark": 2, "print": 1}


class BookCase(unittest.TestCase):

    def refuses(self, book, error, call, *given):
        """A call raises just this error, and the book is as it was."""
        before, fresh = told(book), book.fresh_count()
        with self.assertRaises(PostError) as caught:
            call(*given)
        self.assertIs(caught.exception.__class__, error)
        self.assertEqual((told(book), book.fresh_count()), (before, fresh))


class InterfaceTest(unittest.TestCase):

    def test_methods_stand_in_the_class(self):
        for name in ("put", "fresh", "size", "kind", "parts", "depth", "within", "copy"):
            self.assertIn(name, vars(Book))
        self.assertEqual(list(inspect.signature(Book).parameters), [])
        self.assertEqual(list(inspect.signature(Book.put).parameters), ["self", "kind", "parts"])
        self.assertEqual(list(inspect.signature(Book.within).parameters), ["self", "terms"])
        for name in ("kind", "parts", "depth"):
            self.assertEqual(list(inspect.signature(getattr(Book, name)).parameters), ["self", "term"])
        self.assertEqual(list(inspect.signature(books.carried).parameters), ["book", "other", "terms"])
        self.assertEqual(books.carried.__module__, "strangerspost.books")


class PutTest(BookCase):

    def test_empty(self):
        book = Book()
        self.assertEqual((book.size(), book.within(()), book.within([])), (0, [], []))
        self.refuses(book, NoTerm, book.kind, 0)

    def test_each_kind(self):
        book, terms = full_book()
        self.assertEqual(list(terms.values()), list(range(10)))
        self.assertEqual(told(book), [
            ("fresh", (0,), 1), ("name", ("key",), 1), ("number", (7,), 1), ("row", (1, 2, 0, 1), 2),
            ("made", (1, 0), 2), ("lock", (0,), 2), ("box", (5, 3), 3), ("chest", (4, 2), 3), ("mark", (0, 6), 4),
            ("print", (8,), 5),
        ])

    def test_put_in_again(self):
        book, terms = full_book()
        for kind, term in terms.items():
            if kind != "fresh":
                self.assertEqual(book.put(kind, book.parts(term)), term)
        self.assertEqual(book.size(), 10)

    def test_kinds_of_alike_parts_differ(self):
        book = Book()
        key = book.fresh()
        pairs = [book.put(kind, (key, key)) for kind in ("row", "made", "box", "chest", "mark")]
        singles = [book.put(kind, (key,)) for kind in ("row", "lock", "print", "number")]
        self.assertEqual(pairs + singles, list(range(1, 10)))

    def test_order_and_number_of_parts_tell(self):
        book = Book()
        one, two = book.fresh(), book.fresh()
        self.assertEqual(len({book.put("made", (one, two)), book.put("made", (two, one))}), 2)
        self.assertEqual(len({book.put("row", (one,) * many) for many in range(5)}), 5)

    def test_fresh(self):
        book = Book()
        self.assertEqual([book.fresh(), book.put("name", ("",)), book.fresh(), book.fresh()], [0, 1, 2, 3])
        self.assertEqual([book.parts(term) for term in (0, 2, 3)], [(0,), (1,), (2,)])
        self.assertEqual([book.kind(term) for term in (0, 2, 3)], ["fresh"] * 3)

    def test_any_terms_are_keys_locks_and_contents(self):
        book, terms = full_book()
        for kind, many in COUNTS.items():
            for term in list(terms.values()):
                self.assertEqual(book.parts(book.put(kind, (term,) * many)), (term,) * many)

    def test_no_kind(self):
        book, _ = full_book()
        parts = [(), (0,), (0, 0), ("a",), None, "no parts"]
        things = ["fresh", "", "Name", "name ", "rows", "term", "name\n", *NO_TERMS, deep(40), ("name",), ["name"]]
        for kind in things:
            for given in parts:
                self.refuses(book, NoKind, book.put, kind, given)

    def test_no_tuple_of_parts(self):
        book, _ = full_book()
        for kind in ("name", "number", "row", *COUNTS):
            for parts in (None, 0, 1, True, "", "ab", b"ab", [], [0], [0, 0], ["a"], {}, {0: 0}, range(1), book):
                self.refuses(book, NoParts, book.put, kind, parts)

    def test_wrong_count_of_parts(self):
        book, _ = full_book()
        for kind, many in COUNTS.items():
            for count in (0, 1, 2, 3, 4, 400):
                if count != many:
                    self.refuses(book, NoParts, book.put, kind, (0,) * count)
        for kind, part in (("name", "a"), ("number", 1)):
            for count in (0, 2, 3):
                self.refuses(book, NoParts, book.put, kind, (part,) * count)

    def test_parts_that_are_no_terms(self):
        book, _ = full_book()
        for kind, many in [("row", 1), ("row", 3), *COUNTS.items()]:
            for wrong in (*NO_TERMS, book.size(), book.size() + 1, "name", deep(38)):
                for at in range(many):
                    self.refuses(book, NoParts, book.put, kind, (0,) * at + (wrong,) + (0,) * (many - at - 1))

    def test_names(self):
        book = Book()
        signs = "".join([chr(code) for code in range(32, 127)])
        for text in ("", " ", "~", "a" * 40, signs[:40], signs[40:80], signs[80:], '"' * 40, "\\" * 40):
            self.assertEqual(book.parts(book.put("name", (text,))), (text,))
        wrong = ["a" * 41, " " * 41, "\n", "a\n", "\na", "\t", "\x00", "\x1f", "\x7f", "\xe9", "a" * 39 + "\n"]
        for text in [*wrong, 0, True, None, b"a", ("a",), ["a"], {"a": "a"}, deep(38), book]:
            self.refuses(book, NoParts, book.put, "name", (text,))

    def test_numbers(self):
        book = Book()
        for number in (0, 1, 999999999999, 10 ** 12 - 1):
            self.assertEqual(book.parts(book.put("number", (number,))), (number,))
        for number in (-1, 10 ** 12, 10 ** 12 + 1, 10 ** 39, -10 ** 12, True, False, None, "1", b"1", (1,), [1], book):
            self.refuses(book, NoParts, book.put, "number", (number,))
        self.assertEqual(book.size(), 3)

    def test_flags_are_no_numbers_though_equal(self):
        book = Book()
        zero, one = book.put("number", (0,)), book.put("number", (1,))
        for flag in (False, True):
            self.refuses(book, NoParts, book.put, "number", (flag,))
            self.refuses(book, NoParts, book.put, "lock", (flag,))
            self.refuses(book, NoParts, book.put, "row", (zero, flag, one))

    def test_rows(self):
        book = Book()
        key = book.fresh()
        for many in (0, 1, 2, 399, 400):
            self.assertEqual(book.parts(book.put("row", (key,) * many)), (key,) * many)
        for many in (401, 402, 1000):
            self.refuses(book, NoParts, book.put, "row", (key,) * many)

    def test_a_term_is_no_part_of_itself(self):
        book = Book()
        self.refuses(book, NoParts, book.put, "lock", (0,))
        self.refuses(book, NoParts, book.put, "row", (0,))


class TellTest(BookCase):

    def test_no_term(self):
        book, _ = full_book()
        for thing in (*NO_TERMS, book.size(), book.size() + 5, "name", deep(40), 10 ** 12):
            for call in (book.kind, book.parts, book.depth):
                self.refuses(book, NoTerm, call, thing)

    def test_depth(self):
        book = Book()
        key = book.fresh()
        empty = book.put("row", ())
        number = book.put("number", (10 ** 11,))
        lock = book.put("lock", (key,))
        row = book.put("row", (lock, key, empty))
        box = book.put("box", (lock, row))
        mark = book.put("mark", (box, key))
        self.assertEqual([book.depth(term) for term in (key, empty, number, lock, row, box, mark)], [1, 1, 1, 2, 3, 4, 5])

    def test_within(self):
        book, terms = full_book()
        self.assertEqual(book.within((terms["print"],)), [0, 1, 2, 3, 5, 6, 8, 9])
        self.assertEqual(book.within([terms["chest"]]), [0, 1, 2, 4, 7])
        self.assertEqual(book.within([terms["chest"], terms["lock"], 7, 7]), [0, 1, 2, 4, 5, 7])
        self.assertEqual(book.within((2, 1)), [1, 2])
        self.assertEqual(book.within((0,)), [0])
        self.assertEqual(book.within(tuple(range(10))), list(range(10)))

    def test_within_counts_no_text_number_or_fresh_number_as_terms(self):
        book = Book()
        for _ in range(3):
            book.fresh()
        number = book.put("number", (1,))
        last = book.fresh()
        self.assertEqual(book.within((number,)), [number])
        self.assertEqual(book.within((last,)), [last])

    def test_no_terms(self):
        book, _ = full_book()
        for wrong in (*NO_TERMS, book.size(), deep(38)):
            for terms in ((wrong,), [wrong], (0, wrong), [wrong, 0], [0, 1, wrong, 2]):
                self.refuses(book, NoTerms, book.within, terms)
        for terms in (None, 0, 1, True, "", "0", b"", b"\x00", {}, {0: 0}, range(2), book, NoTerm(), int):
            self.refuses(book, NoTerms, book.within, terms)

    def test_within_gives_new_lists_and_changes_nothing(self):
        book, _ = full_book()
        terms = [9, 7]
        found = book.within(terms)
        found.append(99)
        self.assertEqual(terms, [9, 7])
        self.assertEqual(book.within(terms), list(range(10)))

    def test_within_is_what_parts_lead_to(self):
        for seed in range(20):
            book = random_book(random.Random(seed), 40)
            for term in range(book.size()):
                parts = () if book.kind(term) in ("name", "number", "fresh") else book.parts(term)
                found = {term}
                for part in parts:
                    self.assertLess(part, term)
                    found.update(book.within((part,)))
                self.assertEqual(book.within((term,)), sorted(found))
                self.assertEqual(book.depth(term), 1 + max([book.depth(part) for part in parts], default=0))

    def test_very_deep(self):
        book = Book()
        term = book.fresh()
        for depth in range(2, 20001):
            term = book.put("lock", (term,))
        self.assertEqual((book.depth(term), len(book.within((term,)))), (20000, 20000))
        self.assertEqual(book.put("lock", (term - 1,)), term)
        other = book.copy()
        self.assertEqual(other, book)
        self.assertEqual(len(books.carried(book, other, (term,))), 20000)

    def test_what_is_passed_or_kept_does_not_change(self):
        book = Book()
        key = book.fresh()
        parts = (key, key)
        term = book.put("row", parts)
        self.assertEqual((parts, book.parts(term)), ((key, key), (key, key)))
        self.assertIs(book.parts(term).__class__, tuple)


class CopyTest(BookCase):

    def test_goes_on_apart(self):
        book, _ = full_book()
        other = book.copy()
        self.assertIsInstance(other, Book)
        self.assertEqual(other, book)
        self.assertEqual(told(other), told(book))
        new = other.put("name", ("new",))
        self.assertEqual(other.fresh(), new + 1)
        self.assertEqual(other.parts(new + 1), (1,))
        self.assertEqual(book.size(), 10)
        self.assertNotEqual(other, book)
        self.assertEqual(book.fresh(), 10)
        self.assertEqual(book.parts(10), (1,))
        self.assertEqual(book.put("name", ("new",)), 11)
        self.assertEqual(other.kind(10), "name")

    def test_of_a_copy_and_of_none(self):
        book = Book()
        other = book.copy().copy()
        other.fresh()
        self.assertEqual((book.size(), other.size()), (0, 1))

    def test_alike_ones_stand_once_in_a_copy(self):
        book, terms = full_book()
        other = book.copy()
        for kind, term in terms.items():
            if kind != "fresh":
                self.assertEqual(other.put(kind, book.parts(term)), term)


class EqualTest(unittest.TestCase):

    def test_same_terms_in_the_same_order(self):
        self.assertEqual(Book(), Book())
        self.assertEqual(full_book()[0], full_book()[0])
        self.assertFalse(full_book()[0] != full_book()[0])

    def test_failed_calls_tell_nothing(self):
        one, other = full_book()[0], full_book()[0]
        with self.assertRaises(NoParts):
            one.put("lock", (99,))
        one.put("number", (7,))
        self.assertEqual(one, other)

    def test_unlike(self):
        one, other = Book(), Book()
        one.put("name", ("a",))
        self.assertNotEqual(one, other)
        other.put("name", ("b",))
        self.assertNotEqual(one, other)
        one.put("name", ("b",))
        other.put("name", ("a",))
        self.assertNotEqual(one, other)

    def test_unlike_by_kinds_or_parts_alone(self):
        seen = []
        for kind in ("row", "made", "box", "chest", "mark"):
            for parts in ((0, 0), (0, 1), (1, 0)):
                book = Book()
                book.fresh()
                book.fresh()
                book.put(kind, parts)
                self.assertFalse(book in seen)
                seen.append(book)

    def test_beside_what_is_no_book(self):
        book = Book()
        for thing in (None, 0, "", (), [], {}, True, NoTerm(), Book, object()):
            self.assertFalse(book == thing)
            self.assertTrue(book != thing)
            self.assertFalse(thing == book)


class CarriedTest(BookCase):

    def test_into_an_empty_one(self):
        book, terms = full_book()
        before = told(book)
        other = Book()
        numbers = books.carried(book, other, tuple(range(10)))
        self.assertEqual(numbers, {term: term for term in range(10)})
        self.assertEqual(list(numbers), list(range(10)))
        self.assertEqual(other, book)
        self.assertEqual(told(book), before)

    def test_in_the_order_of_their_numbers(self):
        book, terms = full_book()
        other = Book()
        numbers = books.carried(book, other, [terms["chest"], terms["lock"]])
        self.assertEqual(list(numbers.items()), [(0, 0), (1, 1), (2, 2), (4, 3), (5, 4), (7, 5)])
        self.assertEqual([other.kind(term) for term in range(6)], ["fresh", "name", "number", "made", "lock", "chest"])
        self.assertEqual(other.parts(5), (3, 2))

    def test_alike_terms_are_there_already(self):
        book = Book()
        name, number = book.put("name", ("a",)), book.put("number", (3,))
        row = book.put("row", (name, number))
        other = Book()
        other.fresh()
        there = other.put("number", (3,))
        self.assertEqual(books.carried(book, other, (row,)), {name: 2, number: there, row: 3})
        self.assertEqual(other.parts(3), (2, there))
        self.assertEqual(books.carried(book, other, [row]), {name: 2, number: there, row: 3})
        self.assertEqual(other.size(), 4)

    def test_fresh_ones_become_new_each_time(self):
        book = Book()
        one, two = book.fresh(), book.fresh()
        made = book.put("made", (one, two))
        other = Book()
        other.fresh()
        self.assertEqual(books.carried(book, other, (made,)), {one: 1, two: 2, made: 3})
        self.assertEqual(books.carried(book, other, (made,)), {one: 4, two: 5, made: 6})
        self.assertEqual([other.parts(term) for term in range(7)], [(0,), (1,), (2,), (1, 2), (3,), (4,), (4, 5)])
        self.assertEqual(book.size(), 3)

    def test_into_the_book_itself(self):
        book = Book()
        name, key = book.put("name", ("a",)), book.fresh()
        made = book.put("made", (name, key))
        self.assertEqual(books.carried(book, book, [made]), {name: name, key: 3, made: 4})
        self.assertEqual(book.parts(4), (name, 3))

    def test_nothing(self):
        book, _ = full_book()
        other = Book()
        self.assertEqual((books.carried(book, other, ()), books.carried(book, other, [])), ({}, {}))
        self.assertEqual(other.size(), 0)

    def test_no_terms(self):
        book, _ = full_book()
        other, _ = full_book()
        other.fresh()
        for terms in (None, 0, "", {}, {0: 0}, range(2), book, (10,), [0, 10], (0, -1), [True], (0, "0"), (None,), [[0]]):
            self.refuses(other, NoTerms, books.carried, book, other, terms)
            self.refuses(book, NoTerms, books.carried, book, book, terms)

    def test_what_is_passed_does_not_change(self):
        book, _ = full_book()
        terms = [9, 3]
        numbers = books.carried(book, Book(), terms)
        numbers.clear()
        self.assertEqual(terms, [9, 3])
        self.assertEqual(len(books.carried(book, Book(), terms)), 8)

    def test_shapes_stay(self):
        for seed in range(20):
            chance = random.Random(seed)
            book, other = random_book(chance, 30), random_book(chance, 20)
            some = [chance.randrange(book.size()) for _ in range(5)]
            numbers = books.carried(book, other, some)
            self.assertEqual(list(numbers), book.within(some))
            for term, there in numbers.items():
                kind, parts = book.kind(term), book.parts(term)
                self.assertEqual(other.kind(there), kind)
                if kind in ("name", "number"):
                    self.assertEqual(other.parts(there), parts)
                elif kind != "fresh":
                    self.assertEqual(other.parts(there), tuple([numbers[part] for part in parts]))
            self.assertEqual(len(set(numbers.values())), len(numbers))
