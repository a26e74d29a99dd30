import inspect
import random
import unittest

from strangerspost import exprs
from strangerspost.books import Book
from strangerspost.errors import NoKind
from strangerspost.exprs import expr_text, is_expr, read_expr
from strangerspost.texts import read_term, term_text
from tests.things import deep, random_book

NAME, NUMBER = ("name", ("a b",)), ("number", (7,))
POST, MINE, PART = ("post", (3,)), ("mine", (0,)), ("part", (("post", (3,)), 1))

# EXPRs, each with its text.
RIGHT = (
    (NAME, 'name "a b"'), (NUMBER, "number 7"), (POST, "post(3)"), (MINE, "mine(0)"), (PART, "part(post(3), 1)"),
    (("row", ()), "row()"), (("row", (NAME,)), 'row(name "a b")'), (("row", (NAME, NUMBER, NAME)), 'row(name "a b", number 7, name "a b")'),
    (("made", (NAME, POST)), 'made(name "a b", post(3))'), (("lock", (MINE,)), "lock(mine(0))"),
    (("box", (("lock", (MINE,)), NUMBER)), "box(lock(mine(0)), number 7)"), (("chest", (MINE, PART)), "chest(mine(0), part(post(3), 1))"),
    (("mark", (MINE, ("row", ()))), "mark(mine(0), row())"), (("print", (POST,)), "print(post(3))"),
    (("part", (("part", (POST, 0)), 10 ** 12 - 1)), "part(part(post(3), 0), 999999999999)"), (("name", ("",)), 'name ""'),
    (("name", ('"\\',)), 'name "\\"\\\\"'), (("name", ("x" * 40,)), 'name "' + "x" * 40 + '"'), (("number", (0,)), "number 0"),
    (("number", (10 ** 12 - 1,)), "number 999999999999"), (("post", (10 ** 12 - 1,)), "post(999999999999)"),
    (("mine", (10,)), "mine(10)"), (("name", ("), number 1",)), 'name "), number 1"'),
)

# Things of all kinds that are no EXPR, nor any part of one.
NOTHING = (
    None, True, False, 0, -1, 7, 10 ** 39, "", "name", "a", b"", b"name", (), ("name",), [], {}, {"name": ("a",)}, range(2), Book(),
    Book, NoKind(), len, object(), deep(40), ("name", "a"), ("row", ()) + ((),), [NAME], (NAME,),
)


def nested(count, inner):
    """A lock of a lock of .. of an EXPR, so many locks."""
    for _ in range(count):
        inner = ("lock", (inner,))
    return inner


def drawn(chance, most):
    """An EXPR drawn by chance, at most so deep."""
    words = ["name", "number", "post", "mine"]
    if most > 1:
        words += ["row", "row", "made", "lock", "box", "chest", "mark", "print", "part", "part"]
    word = chance.choice(words)
    if word == "name":
        return word, ("".join(chance.choices('a "\\),(', k=chance.randrange(5))),)
    if word in ("number", "post", "mine"):
        return word, (chance.choice((0, 1, 2, 3, 5, 10, 10 ** 12 - 1)),)
    if word == "part":
        return word, (drawn(chance, most - 1), chance.randrange(4))
    count = chance.randrange(4) if word == "row" else 1 if word in ("lock", "print") else 2
    return word, tuple([drawn(chance, most - 1) for _ in range(count)])


class InterfaceTest(unittest.TestCase):

    def test_names(self):
        self.assertEqual(list(inspect.signature(exprs.is_expr).parameters), ["thing"])
        self.assertEqual(exprs.is_expr.__module__, "strangerspost.exprs")


class IsExprTest(unittest.TestCase):

    def test_right_ones(self):
        for expr, text in RIGHT:
            self.assertIs(is_expr(expr), True, expr)

    def test_things_of_any_kind(self):
        for thing in NOTHING:
            self.assertIs(is_expr(thing), False, thing)
            for word in ("row", "made", "lock", "box", "chest", "mark", "print", "part", "name", "number", "post", "mine"):
                right = thing == () and word == "row" or thing == (NAME,) and word in ("row", "lock", "print")
                right = right or (word, thing) == ("name", ("name",))
                self.assertIs(is_expr((word, thing)), right)
                self.assertIs(is_expr((thing, (NAME,))), False)

    def test_parts_otherwise(self):
        for thing in NOTHING:
            for word, count in (("made", 2), ("lock", 1), ("box", 2), ("chest", 2), ("mark", 2), ("print", 1), ("row", 3)):
                for at in range(count):
                    parts = [NAME] * count
                    parts[at] = thing
                    self.assertIs(is_expr((word, tuple(parts))), False, (word, thing))
            self.assertIs(is_expr(("part", (thing, 0))), False)
            if not (isinstance(thing, int) and thing in (0, 7)) or isinstance(thing, bool):
                self.assertIs(is_expr(("part", (NAME, thing))), False, thing)
                for word in ("number", "post", "mine"):
                    self.assertIs(is_expr((word, (thing,))), False, thing)

    def test_how_many_parts(self):
        for word, count in (("made", 2), ("lock", 1), ("box", 2), ("chest", 2), ("mark", 2), ("print", 1)):
            for many in range(5):
                self.assertIs(is_expr((word, (NAME,) * many)), many == count)
        for word, part in (("name", "a"), ("number", 1), ("post", 1), ("mine", 1)):
            for many in range(3):
                self.assertIs(is_expr((word, (part,) * many)), many == 1)
        for parts in ((), (NAME,), (NAME, 0, 0), (0, NAME), (NAME, NAME)):
            self.assertIs(is_expr(("part", parts)), False)

    def test_lists_for_tuples(self):
        for thing in (["name", ("a",)], ("name", ["a"]), ("row", [NAME]), ("row", ["name", ("a",)]), ("lock", [NAME]),
                      ("lock", (["name", ("a",)],)), ("row", (NAME, list(NUMBER))), ("part", [NAME, 0])):
            self.assertIs(is_expr(thing), False, thing)

    def test_words_that_are_none(self):
        for word in ("fresh", "", "Name", "names", "term", "know", "image", "lock ", "nam", "rows", "x" * 20000, b"name", 0, None):
            for parts in ((), (0,), ("a",), (NAME,), (NAME, NAME)):
                self.assertIs(is_expr((word, parts)), False, word)

    def test_texts_and_numbers(self):
        for text in ("x" * 41, "\n", "a\nb", "\t", "\x7f", "\u00e9", "\x1f", 0, None, b"a", ("a",)):
            self.assertIs(is_expr(("name", (text,))), False)
        for number in (-1, 10 ** 12, 10 ** 39, -10 ** 39, True, False, "0", None, (0,)):
            for word in ("number", "post", "mine"):
                self.assertIs(is_expr((word, (number,))), False)
            self.assertIs(is_expr(("part", (POST, number))), False)

    def test_depth(self):
        for inner, own in ((NAME, 1), (("row", ()), 1), (POST, 1), (PART, 2), (("row", (NAME, PART)), 3)):
            for count in range(20):
                self.assertIs(is_expr(nested(count, inner)), count + own <= 12, (count, inner))
        part = POST
        for depth in range(2, 15):
            part = ("part", (part, 0))
            self.assertIs(is_expr(part), depth <= 12)
        for count in (3000, 20000):
            self.assertIs(is_expr(nested(count, NAME)), False)
            self.assertIs(is_expr(deep(count)), False)
            row = NAME
            for _ in range(count):
                row = ("row", (row, row))
            self.assertIs(is_expr(row), False)

    def test_words(self):
        for count in (0, 1, 58, 59, 60, 61, 400, 401, 20000):
            self.assertIs(is_expr(("row", (NAME,) * count)), count + 1 <= 60, count)
            self.assertIs(is_expr(("row", (("row", ()),) * count)), count + 1 <= 60, count)
        self.assertIs(is_expr(("row", (PART,) * 29 + (NAME,))), True)
        self.assertIs(is_expr(("row", (PART,) * 29 + (NAME, NAME))), False)
        self.assertIs(is_expr(("made", (("row", (NAME,) * 29), ("row", (NAME,) * 28)))), True)
        self.assertIs(is_expr(("made", (("row", (NAME,) * 29), ("row", (NAME,) * 29)))), False)

    def test_alike_each_time(self):
        for expr, text in RIGHT:
            parts = repr(expr)
            self.assertIs(is_expr(expr), is_expr(expr))
            self.assertEqual(repr(expr), parts)


class TextTest(unittest.TestCase):

    def test_texts(self):
        for expr, text in RIGHT:
            self.assertEqual(expr_text(expr), text)
            self.assertEqual(read_expr(text), expr)

    def test_texts_otherwise(self):
        wrong = (
            "", " ", "a", "name", 'name', 'name "', 'name "a', 'name a', 'name  "a"', ' name "a"', 'name "a" ', 'name "a"b', 'name"a"',
            'name "' + "x" * 41 + '"', 'name "a\\b"', 'name "\u00e9"', "number", "number ", "number 00", "number 01", "number -1",
            "number 1000000000000", "number 1 ", "number  1", "number a", "number(1)", 'name("a")', "post", "post 3", "post()",
            "post(03)", "post(-1)", "post( 3)", "post(3 )", "post(3", "post(3))", "post(1000000000000)", "post(number 3)", "post(3, 3)",
            "mine()", "mine 0", "mine(00)", "mine(+1)", "part(post(3))", "part(post(3), )", "part(post(3),1)", "part(post(3),  1)",
            "part(post(3), 01)", "part(1, post(3))", "part(post(3), number 1)", "part(post(3), 1, 1)", "part()", "part(post(3), 1", "row",
            "row(", "row( )", "row(post(3)", "row(post(3),)", "row(post(3), )", "row(,)", "row(post(3) , post(3))", "row (post(3))",
            "row(3)", "lock()", "lock(post(3), post(3))", "lock 3", "lock(3)", "lock(post(3)) ", "made(post(3))", "made(post(3), post(3), post(3))",
            "box(post(3))", "chest(post(3))", "mark(post(3))", "print()", "fresh 0", "fresh(0)", "row(fresh 0)", "term(0)", "post(\u0663)",
            "Row()", "rows()", "lock(lock(post(3))", "lock(post(3))))", "row()row()",
        )
        for text in wrong:
            self.assertIsNone(read_expr(text), text)

    def test_depth_and_words(self):
        for count in range(20):
            text = "lock(" * count + "post(3)" + ")" * count
            self.assertEqual(read_expr(text), nested(count, POST) if count < 12 else None)
            text = "lock(" * count + "row()" + ")" * count
            self.assertEqual(read_expr(text), nested(count, ("row", ())) if count < 12 else None)
        for count in (59, 60, 3000):
            text = "row(" + ", ".join(["post(3)"] * count) + ")"
            self.assertEqual(read_expr(text), ("row", (POST,) * count) if count < 60 else None)
        for text in ("lock(" * 4000, "row(" * 4000 + ")" * 4000, "part(" * 4000, "lock(" * 3000 + "post(3)" + ")" * 3000, "(" * 20000):
            self.assertIsNone(read_expr(text))

    def test_drawn(self):
        for seed in range(400):
            chance = random.Random(seed)
            expr = drawn(chance, chance.randrange(1, 14))
            text = expr_text(expr)
            self.assertEqual(read_expr(text), expr if is_expr(expr) else None)

    def test_spoilt(self):
        taken = 0
        for seed in range(1500):
            chance = random.Random(seed)
            text = expr_text(drawn(chance, 4))
            at = chance.randrange(len(text) + 1)
            text = text[:at] + chance.choice(("", "(", ")", ",", " ", "0", "1", '"', "\\", "a")) + text[at + chance.randrange(2):]
            expr = read_expr(text)
            if expr is not None:
                taken += 1
                self.assertTrue(is_expr(expr))
                self.assertEqual(expr_text(expr), text)
        self.assertGreater(taken, 100)

    def test_as_terms_are_written(self):
        # Without fresh terms an EXPR is written as a term is.
        for seed in range(40):
            chance = random.Random(seed)
            book = Book()
            for term in range(random_book(chance, 30).size()):
                expr = drawn(chance, 4)
                if any([word in expr_text(expr) for word in ("post(", "mine(", "part(")]) or not is_expr(expr):
                    continue
                number = read_term(book, expr_text(expr))
                self.assertEqual(term_text(book, number), expr_text(expr))


if __name__ == "__main__":
    unittest.main()
