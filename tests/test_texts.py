import inspect
import random
import unittest

from strangerspost import texts
from strangerspost.books import Book
from strangerspost.errors import BadTerm, NoTerm, PostError, TooLong
from strangerspost.texts import read_term, term_text
from tests.things import NO_TERMS, deep, full_book, random_book, told

SIGNS = [chr(code) for code in range(32, 127)] + ["\n"]


def fresh_book(many):
    book = Book()
    for _ in range(many):
        book.fresh()
    return book


class TextCase(unittest.TestCase):

    def bad(self, book, text, at):
        """A text is refused at a place, and the book is as it was."""
        before, fresh = told(book), book.fresh_count()
        with self.assertRaises(PostError) as caught:
            read_term(book, text)
        self.assertIs(caught.exception.__class__, BadTerm)
        self.assertEqual(caught.exception.at, at, text)
        self.assertEqual((told(book), book.fresh_count()), (before, fresh))

    def reads(self, book, text):
        """A text is read, and is that of what is read."""
        term = read_term(book, text)
        self.assertEqual(term_text(book, term), text)
        self.assertEqual(read_term(book, text), term)
        return term


class TermTextTest(TextCase):

    def test_interface(self):
        for call, names in ((term_text, ["book", "term"]), (read_term, ["book", "text"])):
            self.assertEqual(list(inspect.signature(call).parameters), names)
            self.assertEqual(call.__module__, "strangerspost.texts")

    def test_e03(self):
        b = Book()
        f = b.fresh()
        n = b.put("name", ("key",))
        k = b.put("made", (n, f))
        g = b.fresh()
        h = b.put("chest", (k, g))
        self.assertEqual(term_text(b, h), 'chest(made(name "key", fresh 0), fresh 1)')

    def test_each_kind(self):
        book, terms = full_book()
        self.assertEqual({kind: term_text(book, term) for kind, term in terms.items()}, {
            "fresh": "fresh 0",
            "name": 'name "key"',
            "number": "number 7",
            "row": 'row(name "key", number 7, fresh 0, name "key")',
            "made": 'made(name "key", fresh 0)',
            "lock": "lock(fresh 0)",
            "box": 'box(lock(fresh 0), row(name "key", number 7, fresh 0, name "key"))',
            "chest": 'chest(made(name "key", fresh 0), number 7)',
            "mark": 'mark(fresh 0, box(lock(fresh 0), row(name "key", number 7, fresh 0, name "key")))',
            "print": 'print(mark(fresh 0, box(lock(fresh 0), row(name "key", number 7, fresh 0, name "key"))))',
        })

    def test_rows(self):
        book = fresh_book(1)
        texts_of_rows = [term_text(book, book.put("row", (0,) * many)) for many in range(3)]
        self.assertEqual(texts_of_rows, ["row()", "row(fresh 0)", "row(fresh 0, fresh 0)"])

    def test_quotes_and_backslashes(self):
        book = Book()
        for text, written in (
            ("", 'name ""'), ('"', 'name "\\""'), ("\\", 'name "\\\\"'), ('\\"', 'name "\\\\\\""'),
            ('"\\', 'name "\\"\\\\"'), ("a, b) '", 'name "a, b) \'"'), ("\\n", 'name "\\\\n"'),
        ):
            term = book.put("name", (text,))
            self.assertEqual(term_text(book, term), written)
            self.assertEqual(self.reads(book, written), term)

    def test_numbers_and_fresh_ones(self):
        book = fresh_book(12)
        self.assertEqual(term_text(book, 10), "fresh 10")
        for number in (0, 10, 10 ** 12 - 1):
            self.assertEqual(term_text(book, book.put("number", (number,))), f"number {number}")
        late = book.fresh()
        self.assertEqual((late, term_text(book, late)), (15, "fresh 12"))

    def test_no_term(self):
        book, _ = full_book()
        for thing in (*NO_TERMS, book.size(), "name", deep(40)):
            before = told(book)
            with self.assertRaises(PostError) as caught:
                term_text(book, thing)
            self.assertIs(caught.exception.__class__, NoTerm)
            self.assertEqual(told(book), before)


class LongTextTest(TextCase):

    def too_long(self, book, term):
        with self.assertRaises(PostError) as caught:
            term_text(book, term)
        self.assertIs(caught.exception.__class__, TooLong)
        self.assertEqual(caught.exception.most, 20000)

    def padded(self, book, size):
        """A term whose text has so many signs."""
        wide = book.put("name", ('"' * 40,))
        many, rest = divmod(size - 30, 89)
        items = [wide] * many
        for _ in range(3):
            items.append(book.put("name", ("v" * min(rest, 40),)))
            rest -= min(rest, 40)
        return book.put("row", tuple(items))

    def test_padded(self):
        for size in (60, 700, 5001, 19999):
            book = Book()
            self.assertEqual(len(term_text(book, self.padded(book, size))), size)

    def test_as_long_as_may_be(self):
        book = Book()
        term = self.padded(book, 20000)
        text = term_text(book, term)
        self.assertEqual(len(text), 20000)
        self.assertEqual(self.reads(book, text), term)

    def test_one_sign_more(self):
        book = Book()
        term = self.padded(book, 20001)
        self.too_long(book, term)
        self.too_long(book, book.put("lock", (term,)))
        self.assertEqual(len(term_text(book, self.padded(book, 20000))), 20000)

    def test_one_sign_more_is_still_read(self):
        book, other = Book(), Book()
        text = f"print({term_text(book, self.padded(book, 19994))})"
        self.assertEqual(len(text), 20001)
        self.too_long(other, read_term(other, text))
        self.bad(other, text[:-1] + "x", 20000)

    def test_deep_texts(self):
        book = fresh_book(1)
        term = 0
        while 6 * (book.depth(term) - 1) + 7 <= 20000 - 6:
            term = book.put("lock", (term,))
        text = "lock(" * (book.depth(term) - 1) + "fresh 0" + ")" * (book.depth(term) - 1)
        self.assertEqual(term_text(book, term), text)
        self.assertEqual(read_term(book, text), term)
        self.too_long(book, book.put("lock", (term,)))
        other = fresh_book(1)
        self.assertEqual(read_term(other, text), term)
        self.assertEqual(other.depth(term), book.depth(term))

    def test_deep_texts_that_are_cut(self):
        book = fresh_book(1)
        for word in ("lock(", "row(", "print("):
            text = word * 3000
            self.bad(book, text, len(text))
            self.bad(book, text + "x", len(text))

    def test_texts_that_double_at_each_step(self):
        book = fresh_book(1)
        term = 0
        for _ in range(3000):
            term = book.put("made", (term, term))
        self.assertEqual(len(term_text(book, 10)), 15 * 2 ** 10 - 8)
        for wide in (11, 12, 100, term):
            self.too_long(book, wide)

    def test_very_deep(self):
        book = fresh_book(1)
        term = 0
        for _ in range(20000):
            term = book.put("print", (term,))
        self.too_long(book, term)


class ReadTermTest(TextCase):

    def test_each_kind(self):
        book, terms = full_book()
        for kind, term in terms.items():
            self.assertEqual(self.reads(book, term_text(book, term)), term)
        self.assertEqual(book.size(), 10)

    def test_put_in_parts_first(self):
        book = fresh_book(2)
        text = 'mark(made(name "a", row(number 1, fresh 1)), box(lock(fresh 0), row()))'
        self.assertEqual(self.reads(book, text), 9)
        self.assertEqual([term_text(book, term) for term in range(2, 10)], [
            'name "a"', "number 1", "row(number 1, fresh 1)", 'made(name "a", row(number 1, fresh 1))',
            "lock(fresh 0)", "row()", "box(lock(fresh 0), row())", text,
        ])

    def test_alike_parts_are_put_in_once(self):
        book = Book()
        self.assertEqual(self.reads(book, "row(number 5, row(number 5), number 5, row(number 5))"), 2)
        self.assertEqual(told(book), [("number", (5,), 1), ("row", (0,), 2), ("row", (0, 1, 0, 1), 3)])

    def test_what_is_there_is_found(self):
        book, terms = full_book()
        book.put("row", ())
        self.assertEqual(read_term(book, "row(row(), number 7)"), 11)
        self.assertEqual(book.parts(11), (10, terms["number"]))

    def test_no_string(self):
        book, _ = full_book()
        for thing in (None, 0, 1, True, False, -1, b"", b"row()", (), ("row()",), ["row()"], {"row()": 1}, book, deep(40)):
            self.bad(book, thing, -1)

    def test_fact_of_texts(self):
        for seed in range(60):
            book = random_book(random.Random(seed), 40)
            for term in range(book.size()):
                try:
                    text = term_text(book, term)
                except TooLong:
                    continue
                self.assertEqual(read_term(book, text), term)
                other = fresh_book(book.fresh_count())
                self.reads(other, text)
            self.assertEqual(book.size(), len(told(book)))


class BadTermTest(TextCase):

    def test_empty(self):
        self.bad(Book(), "", 0)

    def test_heads(self):
        book = fresh_book(1)
        for text, at in (
            (" ", 0), ("x", 0), ("Name", 0), ("\n", 0), ('"', 0), ("0", 0), (")", 0), ("(", 0), (",", 0),
            ("n", 1), ("na", 2), ("name", 4), ("name ", 5), ("nx", 1), ("nax", 2), ("namx", 3), ("name\"", 4),
            ("names", 4), ("name  \"a\"", 5), ("name a", 5), ("nu", 2), ("number", 6), ("number(", 6), ("numbers", 6),
            ("m", 1), ("ma", 2), ("mad", 3), ("mar", 3), ("max", 2), ("made", 4), ("mark", 4), ("made ", 4), ("marx", 3),
            ("maker", 2), ("row", 3), ("rows(", 3), ("row (", 3), ("r)", 1), ("print", 5), ("prints", 5), ("b(", 1),
            ("bo", 2), ("boxes", 3), ("c", 1), ("chesx", 4), ("chest", 5), ("lock", 4), ("lock)", 4), ("f", 1), ("fr", 2),
            ("fresh", 5), ("fresh(", 5), ("freshh", 5), (" row()", 0), ("ROW()", 0), ("row[]", 3),
        ):
            self.bad(book, text, at)

    def test_names(self):
        book = Book()
        full = "a" * 40
        self.reads(book, f'name "{full}"')
        for text, at in (
            ('name "', 6), ('name "a', 7), ('name "\n"', 6), ('name "a\n', 7), ('name "\t"', 6), ('name "\x7f"', 6),
            ('name "\xe9"', 6), ('name "\\', 7), ('name "\\a"', 7), ('name "\\\n"', 7), ('name "\\ "', 7), ('name "\\"', 8),
            (f'name "{full}', 46), (f'name "{full}a"', 46), (f'name "{full}\\"', 46), (f'name "{full}\\\\"', 46),
            (f'name "{full}" ', 47), ('name "" ', 7), ('name """', 7), ('name "a" "b"', 8), ("name 'a'", 5),
        ):
            self.bad(book, text, at)

    def test_names_of_forty_signs_that_are_written_with_more(self):
        book = Book()
        for sign in ("\\\\", '\\"'):
            self.reads(book, f'name "{sign * 40}"')
            self.bad(book, f'name "{sign * 41}"', 86)
            self.bad(book, f'name "{sign * 40}', 86)
            self.bad(book, f'name "{"a" * 39}{sign}b"', 47)
            self.bad(book, f'name "{"a" * 39}{sign[0]}', 46)

    def test_numbers(self):
        book = Book()
        for text in ("number 0", "number 9", "number 10", "number 999999999999", "number 100000000000"):
            self.reads(book, text)
        for text, at in (
            ("number ", 7), ("number  1", 7), ("number -1", 7), ("number +1", 7), ("number a", 7), ("number 00", 8),
            ("number 01", 8), ("number 0 ", 8), ("number 1 ", 8), ("number 1_0", 8), ("number 1.0", 8), ("number 1\n", 8),
            ("number 1000000000000", 19), ("number 9999999999999", 19), ("number 1234567890123456", 19), ("number 1)", 8),
            ("number (1)", 7), ("number \xb2", 7), ("number \u0663", 7), ("number 1\u0663", 8), ("number True", 7),
        ):
            self.bad(book, text, at)

    def test_fresh_ones(self):
        book = fresh_book(12)
        for number in range(12):
            self.assertEqual(self.reads(book, f"fresh {number}"), number)
        for text, at in (
            ("fresh ", 6), ("fresh 12", 7), ("fresh 19", 7), ("fresh 20", 7), ("fresh 110", 8), ("fresh 00", 7),
            ("fresh 01", 7), ("fresh 0 ", 7), ("fresh -1", 6), ("fresh a", 6), ("fresh 9999999999999999999999", 7),
        ):
            self.bad(book, text, at)
        self.assertEqual(book.size(), 12)

    def test_fresh_ones_by_their_own_numbers(self):
        book = Book()
        book.put("number", (3,))
        first = book.fresh()
        book.put("row", (0,))
        second = book.fresh()
        self.assertEqual((read_term(book, "fresh 0"), read_term(book, "fresh 1")), (first, second))
        self.bad(book, "fresh 2", 6)
        self.bad(book, "fresh 3", 6)

    def test_few_fresh_ones(self):
        self.bad(fresh_book(1), "fresh 1", 6)
        self.bad(fresh_book(1), "fresh 10", 6)
        self.bad(fresh_book(10), "fresh 10", 7)
        self.bad(fresh_book(2), "lock(fresh 2)", 11)

    def test_no_fresh_one(self):
        book = Book()
        for text in ("f", "fr", "fresh", "fresh ", "fresh 0", "fresh 1"):
            self.bad(book, text, 0)
            self.bad(book, f"lock({text})", 5)
            self.bad(book, f"row(number 1, {text})", 14)

    def test_rows(self):
        book = Book()
        self.reads(book, "row()")
        item = "number 0"
        for many in (1, 2, 399, 400):
            self.reads(book, f"row({', '.join([item] * many)})")
        begun = f"row({', '.join([item] * 400)}"
        for text, at in (
            ("row(", 4), ("row( )", 4), ("row(,", 4), ("row(]", 4), ("row(number 1", 12), ("row(number 1,", 13),
            ("row(number 1, ", 14), ("row(number 1,)", 13), ("row(number 1, )", 14), ("row(number 1 )", 12),
            ("row(number 1,number 2)", 13), ("row(number 1,  number 2)", 14), ("row(number 1 , number 2)", 12),
            ("row(number 1; number 2)", 12), ("row(number 1\n)", 12), ("row())", 5), ("row() ", 5), ("row()\n", 5),
            ("row(row()", 9), ("row(row(), row(", 15), ("row(number 1number 2)", 12), ("row((", 4),
            (begun, len(begun)), (begun + ", number 0)", len(begun)), (begun + ",", len(begun)),
            (begun + " ", len(begun)), (begun + ")x", len(begun) + 1),
        ):
            self.bad(book, text, at)

    def test_a_full_row_within_another_one(self):
        book = Book()
        full = f"row({', '.join(['number 0'] * 400)})"
        self.reads(book, f"row({full}, {full})")
        begun = f"row({full}, {full[:-1]}"
        self.bad(book, begun + ", number 0))", len(begun))
        self.bad(book, begun + ")", len(begun) + 1)

    def test_parts_too_few_or_too_many(self):
        book = Book()
        for kind in ("lock", "print"):
            begun = f"{kind}(number 1"
            self.reads(book, begun + ")")
            for rest in ("", ",", ", number 2)", " ", ";"):
                self.bad(book, begun + rest, len(begun))
            self.bad(book, f"{kind}()", len(kind) + 1)
            self.bad(book, f"{kind}(", len(kind) + 1)
            self.bad(book, f"{kind}(,", len(kind) + 1)
        for kind in ("made", "box", "chest", "mark"):
            begun = f"{kind}(number 1"
            full = begun + ", number 2"
            self.reads(book, full + ")")
            self.bad(book, f"{kind}()", len(kind) + 1)
            for rest in ("", ")", " ", ";", " , "):
                self.bad(book, begun + rest, len(begun))
            self.bad(book, begun + ",", len(begun) + 1)
            self.bad(book, begun + ",)", len(begun) + 1)
            self.bad(book, begun + ",number", len(begun) + 1)
            self.bad(book, begun + ", )", len(begun) + 2)
            for rest in ("", ",", ", number 3)", " )"):
                self.bad(book, full + rest, len(full))

    def test_something_behind_the_end(self):
        book, terms = full_book()
        for kind, term in terms.items():
            text = term_text(book, term)
            for rest in (" ", ")", ",", "\n", "x", text):
                self.bad(book, text + rest, len(text))

    def test_digits_behind_the_end_lengthen_a_number(self):
        book = fresh_book(1)
        self.bad(book, "number 00", 8)
        self.bad(book, "fresh 00", 7)
        self.bad(book, "row()0", 5)

    def test_nothing_is_put_in_ahead_of_a_wrong_sign(self):
        book = Book()
        for text in ('row(name "a", number 1, lock(row()), x', "made(number 1, number 2", "row(number 1))"):
            with self.assertRaises(BadTerm):
                read_term(book, text)
        self.assertEqual(book, Book())

    def test_cut_texts(self):
        book, terms = full_book()
        text = 'row(' + ", ".join([term_text(book, term) for term in terms.values()]) + ', name "\\"\\\\", number 120)'
        for size in range(len(text)):
            self.bad(book, text[:size], size)
        self.reads(book, text)

    def test_cut_texts_of_chance(self):
        for seed in range(30):
            source = random_book(random.Random(seed), 25)
            book = fresh_book(source.fresh_count())
            for term in range(source.size()):
                text = term_text(source, term)
                if len(text) > 300:
                    continue
                for size in range(len(text)):
                    try:
                        found = read_term(book, text[:size])
                    except BadTerm as error:
                        self.assertEqual(error.at, size)
                    else:
                        self.assertIn(book.kind(found), ("number", "fresh"))

    def completed(self, book, text):
        """A text that goes on from here, found by what the places say; None if they say that there is none."""
        for _ in range(200):
            try:
                read_term(book.copy(), text)
                return text
            except BadTerm as error:
                if error.at < len(text):
                    return None
            for sign in [")", '"', "0", " ", ",", "(", *"rowabcdefghiklmnpqstuvxy"]:
                try:
                    read_term(book.copy(), text + sign)
                    return text + sign
                except BadTerm as error:
                    if error.at == len(text) + 1:
                        text += sign
                        break
            else:
                return None
        return None

    def test_places_of_changed_texts(self):
        for seed in range(40):
            chance = random.Random(seed)
            source = random_book(chance, 15)
            book = fresh_book(chance.randrange(1, 13))
            signs = [*'nameubr fshowdlckixtp(), "\\0123456789\nX']
            for _ in range(20):
                text = term_text(source, chance.randrange(source.size()))[:120]
                place = chance.randrange(len(text) + 1)
                text = text[:place] + chance.choice(signs) + text[place + chance.randrange(2):]
                try:
                    term = read_term(book.copy(), text)
                except BadTerm as error:
                    at = error.at
                else:
                    other = book.copy()
                    self.assertEqual(term_text(other, read_term(other, text)), text)
                    self.assertEqual(read_term(book.copy(), text), term)
                    continue
                # Up to the place some text goes on, and with one sign more none does.
                self.assertIsNotNone(self.completed(book, text[:at]), text)
                for size in range(at + 1, len(text) + 1):
                    self.bad(book, text[:size], at)


class PrimitivesTest(unittest.TestCase):

    def test_no_head_begins_another(self):
        heads = [head for _, head in texts.HEADS]
        for one in heads:
            self.assertEqual([head for head in heads if head.startswith(one)], [one])
