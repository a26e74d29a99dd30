import inspect
import random
import unittest

from strangerspost import booktexts
from strangerspost.books import Book
from strangerspost.booktexts import book_text, read_book
from strangerspost.errors import BadImage
from tests.things import deep, full_book, random_book, told

NO_TEXTS = (
    None, True, False, 0, -1, 10 ** 39, b"", b"fresh 0\n", (), ("",), [], [""], {}, {"": ""}, range(2), Book(), Book, len,
    BadImage(1), object(), deep(40),
)


def text_of(*lines):
    return "".join([line + "\n" for line in lines])


class BookTextCase(unittest.TestCase):

    def bad(self, line, text):
        """A text is read by nobody, for just this line."""
        with self.assertRaises(BadImage) as caught:
            read_book(text)
        self.assertIs(caught.exception.__class__, BadImage)
        self.assertEqual(caught.exception.line, line, text)

    def good(self, text):
        """A text is that of the book that it tells."""
        book = read_book(text)
        self.assertIsInstance(book, Book)
        self.assertEqual(book_text(book), text)
        return book


class InterfaceTest(unittest.TestCase):

    def test_names(self):
        for name, given in (("book_text", ["book"]), ("read_book", ["text"])):
            self.assertEqual(list(inspect.signature(getattr(booktexts, name)).parameters), given)
            self.assertEqual(getattr(booktexts, name).__module__, "strangerspost.booktexts")


class LineTest(BookTextCase):

    def test_each_kind_by_hand(self):
        book, terms = full_book()
        lines = (
            "fresh 0", 'name "key"', "number 7", "row 1 2 0 1", "made 1 0", "lock 0", "box 5 3", "chest 4 2", "mark 0 6",
            "print 8",
        )
        self.assertEqual(book_text(book), text_of(*lines))
        self.assertEqual(self.good(text_of(*lines)), book)
        self.assertEqual([read_book(text_of(*lines)).kind(terms[kind]) for kind in terms], list(terms))

    def test_an_empty_book(self):
        self.assertEqual(book_text(Book()), "")
        self.assertEqual(read_book(""), Book())

    def test_texts_of_names(self):
        pairs = (
            ("", 'name ""'), (" ", 'name " "'), ("  a  b  ", 'name "  a  b  "'), ('"', 'name "\\""'), ("\\", 'name "\\\\"'),
            ('\\"', 'name "\\\\\\""'), ('"a"', 'name "\\"a\\""'), ("a\\", 'name "a\\\\"'), ("~", 'name "~"'),
            ("fresh 0", 'name "fresh 0"'), ('"' * 40, 'name "' + '\\"' * 40 + '"'), ("a" * 40, 'name "' + "a" * 40 + '"'),
        )
        for text, line in pairs:
            book = Book()
            book.put("name", (text,))
            self.assertEqual(book_text(book), line + "\n")
            self.assertEqual(self.good(line + "\n"), book)

    def test_wrong_texts_of_names(self):
        wrong = (
            'name', 'name ', 'name "', 'name "a', 'name a"', "name a", 'name  "a"', 'name "a" ', 'name "a"b', 'name "a""',
            'name "a\\"', 'name "a\\b"', 'name "\\', 'name "\\"', 'name "' + "a" * 41 + '"', 'name "' + '\\\\' * 41 + '"',
            'name "\x1f"', 'name "\x7f"', 'name "\t"', 'name "a\r"', 'name "a"\r', 'name "\u00e9"', ' name "a"', 'Name "a"',
            'name"a"', 'name 0', 'name "a" 0', "name 'a'",
        )
        for line in wrong:
            self.bad(1, line + "\n")
            self.bad(3, text_of("fresh 0", 'name "b"', line, "lock 0"))

    def test_numbers(self):
        for number in ("0", "7", "10", "999999999999", "100000000000"):
            book = self.good(f"number {number}\n")
            self.assertEqual(book.parts(0), (int(number),))
        wrong = (
            "00", "01", "007", "1000000000000", "0000000000001", "000000000000", "+1", "-1", "-0", "1.0", "1e3", "1_0", "",
            " 1", "1 ", "1 1", "a", "0x1", "\u0661", "\u00b2", "1" * 5000, "1\r",
        )
        for number in wrong:
            self.bad(1, f"number {number}\n")
            self.bad(2, text_of("fresh 0", f"row {number}") if number not in ("", "1 1", " 1", "1 ") else "fresh 0\nrow  \n")

    def test_rows(self):
        self.good(text_of("row"))
        self.good(text_of("fresh 0", "row 0"))
        self.good(text_of("fresh 0", "fresh 1", "row 0 1 0 0 1"))
        self.assertEqual(read_book("row\nrow 0\n").parts(1), (0,))
        self.assertEqual(read_book("fresh 0\nrow" + " 0" * 400 + "\n").parts(1), (0,) * 400)
        self.good("fresh 0\nrow" + " 0" * 400 + "\n")
        self.bad(2, "fresh 0\nrow" + " 0" * 401 + "\n")
        for line in ("row ", "row  ", "row 0 ", "row  0", " row 0", "row 0  0", "row,0", "row 0,0", "row(0)"):
            self.bad(2, text_of("fresh 0", line))

    def test_counts_of_parts(self):
        for kind, count in (("made", 2), ("lock", 1), ("box", 2), ("chest", 2), ("mark", 2), ("print", 1)):
            for many in range(5):
                text = text_of("fresh 0", kind + " 0" * many)
                if many == count:
                    self.good(text)
                else:
                    self.bad(2, text)
        for line in ("number", "number 1 1", "fresh", "fresh 0 0", "fresh 1 0"):
            self.bad(1, text_of(line))

    def test_words_that_are_no_kind(self):
        for line in ("", " ", "x", "rows 0", "Row 0", "term fresh 0", "post 0", "0", "-", "lock0", "locks 0", "fresh0", "mine 0"):
            self.bad(2, text_of("fresh 0", line, "fresh 1"))


class PlaceTest(BookTextCase):

    def test_parts_that_are_not_ahead(self):
        for line in ("lock 1", "lock 2", "row 0 1", "row 1", "made 0 1", "made 1 0", "box 0 9", "print 999999999999"):
            self.bad(2, text_of("fresh 0", line, "fresh 1", "fresh 2"))
        self.bad(1, "lock 0\n")
        self.bad(1, "row 0\n")

    def test_terms_that_stand_there(self):
        lines = ["fresh 0", 'name "a"', "number 1", "row", "row 0 1", "lock 0", "made 1 0"]
        for at, line in enumerate(lines):
            self.bad(len(lines) + 1, text_of(*lines, line))
            self.bad(at + 2, text_of(*lines[:at + 1], line, *lines[at + 1:]))
        self.good(text_of(*lines, "row 1 0", "lock 1", "made 0 1", "number 0", 'name ""'))

    def test_fresh_ones_in_their_order(self):
        self.good(text_of("fresh 0", "lock 0", "fresh 1", "fresh 2"))
        self.bad(1, text_of("fresh 1"))
        self.bad(1, text_of("fresh 1", "fresh 0"))
        self.bad(2, text_of("fresh 0", "fresh 2", "fresh 1"))
        self.bad(2, text_of("fresh 0", "fresh 0"))
        self.bad(4, text_of("fresh 0", "fresh 1", "lock 0", "fresh 1"))
        self.bad(4, text_of("fresh 0", "fresh 1", "lock 0", "fresh 3"))

    def test_ends_of_lines(self):
        self.bad(1, "fresh 0")
        self.bad(2, "fresh 0\nlock 0")
        self.bad(2, "fresh 0\n ")
        self.bad(2, "fresh 0\n\n")
        self.bad(1, "\n")
        self.bad(2, "fresh 0\n\nlock 0\n")
        self.bad(1, "fresh 0\r\nlock 0\r\n")
        self.bad(2, "fresh 0\nlock 0\r\n")
        self.bad(1, "fresh 0\rlock 0\n")
        self.bad(1, " fresh 0\n")
        self.bad(1, "fresh 0 \n")
        self.bad(1, "fresh  0\n")
        for sign in ("\x0b", "\x0c", "\x1c", "\x85", "\u2028", "\u2029"):
            self.bad(1, f"fresh 0{sign}lock 0\n")
            self.bad(2, f"fresh 0\n{sign}")

    def test_the_first_of_two_wrong_lines(self):
        lines = ["fresh 0", 'name "a"', "lock 0", "row 0 1 2", "print 3"]
        wrong = ("x", "lock 7", "fresh 5", "number 00", 'name "', "", "fresh 0")
        for one in range(len(lines)):
            for other in range(one + 1, len(lines)):
                for at, word in enumerate(wrong):
                    rows = list(lines)
                    rows[one], rows[other] = word, wrong[(at + 1) % len(wrong)]
                    if rows[0] != "fresh 0":
                        self.bad(one + 1, text_of(*rows))
        self.bad(2, "fresh 0\nx\nlock 0")

    def test_no_strings(self):
        for thing in NO_TEXTS:
            self.bad(0, thing)


class FactTest(BookTextCase):

    def test_read_of_a_text_is_the_book(self):
        for seed in range(60):
            chance = random.Random(seed)
            book = random_book(chance, chance.randrange(1, 80))
            text = book_text(book)
            self.assertEqual(text.count("\n"), book.size())
            other = read_book(text)
            self.assertEqual(other, book)
            self.assertEqual(told(other), told(book))
            self.assertEqual(book_text(other), text)
            # They go on alike, and apart.
            self.assertEqual((other.fresh(), other.put("lock", (0,))), (book.fresh(), book.put("lock", (0,))))
            self.assertEqual(book_text(read_book(text)), text)

    def test_what_is_read_is_its_own_text(self):
        taken = 0
        for seed in range(400):
            chance = random.Random(seed)
            lines = book_text(random_book(chance, 12)).split("\n")[:-1]
            for _ in range(chance.randrange(1, 3)):
                at = chance.randrange(len(lines))
                words = lines[at].split(" ")
                words[chance.randrange(len(words))] = chance.choice(("0", "1", "2", "9", "fresh", "row", "lock", '"a"'))
                lines[at] = " ".join(words)
            text = text_of(*lines)
            try:
                book = read_book(text)
            except BadImage as error:
                # Up to the wrong line all is right.
                self.good(text_of(*lines[:error.line - 1]))
                self.bad(error.line, text_of(*lines[:error.line]))
                continue
            taken += 1
            self.assertEqual(book_text(book), text)
        self.assertGreater(taken, 20)

    def test_terms_that_double(self):
        book = Book()
        term = book.fresh()
        for _ in range(600):
            term = book.put("row", (term, term))
        text = book_text(book)
        self.assertEqual(text.count("\n"), 601)
        self.assertEqual(read_book(text), book)
        self.assertEqual(read_book(text).depth(term), 601)

    def test_deep_terms(self):
        book = Book()
        term = book.fresh()
        for _ in range(5000):
            term = book.put("lock", (term,))
        self.assertEqual(read_book(book_text(book)).depth(term), 5001)

    def test_nothing_is_changed(self):
        book = random_book(random.Random(1), 50)
        before = told(book)
        one, other = book_text(book), book_text(book.copy())
        self.assertEqual(one, other)
        self.assertEqual(told(book), before)
        first, second = read_book(one), read_book(one)
        first.fresh()
        self.assertEqual(second, book)


if __name__ == "__main__":
    unittest.main()
