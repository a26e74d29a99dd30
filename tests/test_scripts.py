import inspect
import random
import unittest

from strangerspost import scripts
from strangerspost.books import Book
from strangerspost.errors import BadLine, BadRows, PostError
from strangerspost.exprs import expr_text, is_expr
from strangerspost.scripts import read_script, script_text
from tests.test_booktexts import NO_TEXTS
from tests.test_exprs import NAME, NOTHING, POST, drawn, nested
from tests.things import deep

WORLD, WORLD_ROW = "world 2 1 a b", ("world", 2, 1, ("a", "b"))

# Lines behind the first one, each with its row.
RIGHT = (
    ("card a", ("card", "a")), ("cardas b", ("cardas", "b")), ("found a r", ("found", "a", "r")),
    ("change a r", ("change", "a", "r", ())), ("change a r add 0", ("change", "a", "r", (("add", 0),))),
    ("change a r remove 1 add 12 add 3", ("change", "a", "r", (("remove", 1), ("add", 12), ("add", 3)))),
    ("changeas a r", ("changeas", "a", "r", ())), ("changeas a r remove 999999999999", ("changeas", "a", "r", (("remove", 10 ** 12 - 1),))),
    ("write a r", ("write", "a", "r", None)), ('write a r "hi you"', ("write", "a", "r", "hi you")), ('write a r ""', ("write", "a", "r", "")),
    ('write a r "a \\"b\\" \\\\ "', ("write", "a", "r", 'a "b" \\ ')), ('writeas a r', ("writeas", "a", "r", None)),
    ('writeas a r " "', ("writeas", "a", "r", " ")), ("hand 0 a", ("hand", 0, "a")), ("hand 999999999999 a", ("hand", 10 ** 12 - 1, "a")),
    ("send a post(3)", ("send", "a", POST)), ('send a name "a b"', ("send", "a", NAME)), ("send a row()", ("send", "a", ("row", ()))),
    ("send a lock(mine(0))", ("send", "a", ("lock", (("mine", (0,)),)))), ("steal a", ("steal", "a")), ("leave a r", ("leave", "a", "r")),
    ("fresh", ("fresh",)), ("know number 7", ("know", ("number", (7,)))), ("know part(post(3), 1)", ("know", ("part", (POST, 1)))),
    ("view a r", ("view", "a", "r")), ("image", ("image",)), ("card abcdefghijkl", ("card", "abcdefghijkl")),
    ("found zed abcdefghijkl", ("found", "zed", "abcdefghijkl")),
)

WRONG = (
    "", " ", "card", "card ", "card  a", "card a ", " card a", "card a b", "card A", "card a1", "card abcdefghijklm", "Card a", "cards a",
    "card 0", "card a\r", "card -", "cardas", "cardas a b", "cardAs a", "found a", "found a ", "found a R", "found a r s",
    "found a abcdefghijklm", "found  a r", "found a  r", "change", "change a", "change a ", "change a r ", "change a r add",
    "change a r add ", "change a r add 00", "change a r add -1", "change a r add 1000000000000", "change a r add 0 remove",
    "change a r add 0 remove 1 2", "change a r  add 0", "change a r add  0", "change a r add 0  add 1", "change a r add 0 ",
    "change a r Add 0", "change a r 0 add", "change a r take 0", "change a r add b", "changeas a", "changeas a r add", "write", "write a",
    "write a r ", "write a r hi", 'write a r "', 'write a r "hi', 'write a r hi"', 'write a r "hi" ', 'write a r  "hi"', 'write a r "a"b"',
    'write a r "a\\b"', 'write a r "\\"', 'write a r "' + "x" * 41 + '"', 'write a r "\t"', 'write a r "\u00e9"', "write a r 'hi'",
    'write a r name "hi"', 'write a "r"', 'write a r "a" "b"', "writeas a", 'writeas a r "', "hand", "hand 0", "hand a 0", "hand 00 a",
    "hand -1 a", "hand 1000000000000 a", "hand 0 a b", "hand  0 a", "hand a", "hand 0 0", "hand \u0661 a", "send a", "send a ",
    "send post(3)", "send a post(3) ", "send a  post(3)", "send a post 3", "send a fresh 0", "send a post(03)", "send a name",
    "send A post(3)", "send a " + "lock(" * 12 + "post(3)" + ")" * 12, "send a row(" + ", ".join(["post(3)"] * 60) + ")", "steal",
    "steal a b", "leave a", "leave a r s", "fresh ", "fresh 0", "fresh a", "freshes", "know", "know ", "know post", "know  post(3)",
    "know a post(3)", "know post(3) post(3)", "view a", "view a r s", "view", "image ", "image 0", "images", "x", "look a", "world",
    "term fresh 0", "note x 0", "-", "0",
)


def text_of(*lines):
    return "".join([line + "\n" for line in lines])


class ScriptCase(unittest.TestCase):

    def bad(self, line, text):
        with self.assertRaises(PostError) as caught:
            read_script(text)
        self.assertIs(caught.exception.__class__, BadLine, text)
        self.assertEqual(caught.exception.line, line, text)

    def bad_rows(self, at, rows):
        with self.assertRaises(PostError) as caught:
            script_text(rows)
        self.assertIs(caught.exception.__class__, BadRows, rows)
        self.assertEqual(caught.exception.at, at, rows)


class InterfaceTest(unittest.TestCase):

    def test_names(self):
        for name, given in (("read_script", ["text"]), ("script_text", ["rows"])):
            self.assertEqual(list(inspect.signature(getattr(scripts, name)).parameters), given)
            self.assertEqual(getattr(scripts, name).__module__, "strangerspost.scripts")


class ReadTest(ScriptCase):

    def test_right_lines(self):
        for line, row in RIGHT:
            self.assertEqual(read_script(text_of(WORLD, line)), [WORLD_ROW, row])
            self.assertEqual(read_script(text_of(WORLD, line, "fresh", line)), [WORLD_ROW, row, ("fresh",), row])
        lines = [WORLD] + [line for line, row in RIGHT]
        self.assertEqual(read_script(text_of(*lines)), [WORLD_ROW] + [row for line, row in RIGHT])

    def test_wrong_lines(self):
        for line in WRONG:
            self.bad(2, text_of(WORLD, line))
            self.bad(3, text_of(WORLD, "fresh", line, "card a"))
            self.bad(1, text_of(line))

    def test_first_lines(self):
        for line, row in (
            (WORLD, WORLD_ROW), ("world 0 0 a", ("world", 0, 0, ("a",))), ("world 51 99 a a", ("world", 51, 99, ("a", "a"))),
            ("world 999999999999 10 abcdefghijkl", ("world", 10 ** 12 - 1, 10, ("abcdefghijkl",))),
            ("world 1 1 " + " ".join("abcdefghijklmnopq"), ("world", 1, 1, tuple("abcdefghijklmnopq"))),
        ):
            self.assertEqual(read_script(line + "\n"), [row])
            self.assertEqual(script_text([row]), line + "\n")
            self.bad(2, text_of(line, line))
            self.bad(3, text_of(line, "fresh", WORLD))
        for line in (
            "world", "world ", "world 1", "world 1 ", "world a", "world 1 a", "world a 1 1", "world 01 1 a", "world 1 00 a", "world -1 1 a",
            "world 1 1000000000000 a", "world  1 1 a", "world 1  1 a", "world 1 1  a", "world 1 1 ", "world 1 1 a ", "world 1 1 a  b",
            "world 1 1 A", "world 1 1 abcdefghijklm", "world 1 1 a 1", "world 1 1 1", "World 1 1 a", " world 1 1 a", "world 1 1 a\r", "",
        ):
            self.bad(1, line + "\n")
            self.bad(1, text_of(line, "fresh"))
        for line, row in RIGHT:
            self.bad(1, text_of(line))
            self.bad(1, text_of(line, WORLD))

    def test_a_world_without_names(self):
        # As many names as there are: how many a world may have is told by the tale.
        self.assertEqual(read_script("world 1 1\n"), [("world", 1, 1, ())])
        self.assertEqual(script_text([("world", 1, 1, ())]), "world 1 1\n")

    def test_ends(self):
        self.bad(1, "")
        self.bad(1, " ")
        self.bad(1, WORLD)
        self.bad(1, "\n")
        self.bad(2, WORLD + "\n\n")
        self.bad(2, WORLD + "\n ")
        self.bad(2, WORLD + "\nfresh")
        self.bad(2, WORLD + "\n\nfresh\n")
        self.bad(1, "\n" + WORLD + "\n")
        self.bad(1, WORLD + "\r\nfresh\r\n")
        self.bad(2, WORLD + "\nfresh\r\n")
        self.bad(1, WORLD + "\rfresh\n")
        for sign in ("\x0b", "\x0c", "\x1c", "\x85", "\u2028"):
            self.bad(1, f"{WORLD}{sign}fresh\n")
            self.bad(2, f"{WORLD}\nfresh{sign}\n")

    def test_the_first_of_two(self):
        for one in WRONG[::5]:
            for other in WRONG[::7]:
                self.bad(2, text_of(WORLD, one, "fresh", other))
                self.bad(2, text_of(WORLD, one, WORLD))
                self.bad(2, text_of(WORLD, WORLD, other))
                self.bad(1, text_of(one, other))
                self.bad(2, text_of(WORLD, one) + other)

    def test_words_out_and_twice(self):
        for line, row in RIGHT:
            if row[0] in ("send", "know") or '"' in line:
                continue
            words = line.split(" ")
            for at in range(len(words)):
                out = " ".join(words[:at] + words[at + 1:])
                if (row[0], out) != ("change", "change a r"):
                    self.bad(2, text_of(WORLD, out))
                twice = " ".join(words[:at + 1] + words[at:])
                self.bad(2, text_of(WORLD, twice))

    def test_no_strings(self):
        for thing in NO_TEXTS:
            self.bad(0, thing)

    def test_long_ones(self):
        text = WORLD + "\n" + "fresh\n" * 3000
        self.assertEqual(len(read_script(text)), 3001)
        self.bad(2, WORLD + "\nknow " + "lock(" * 3900 + "\n")
        self.assertEqual(read_script(text_of(WORLD, "change a r" + " add 7" * 3000))[1][3], (("add", 7),) * 3000)

    def test_what_is_returned_is_new(self):
        text = text_of(WORLD, "fresh")
        rows = read_script(text)
        rows.append(None)
        self.assertEqual(read_script(text), [WORLD_ROW, ("fresh",)])


class RowsTest(ScriptCase):

    def test_right_rows(self):
        for line, row in RIGHT:
            self.assertEqual(script_text([WORLD_ROW, row]), text_of(WORLD, line))

    def test_no_lists(self):
        for thing in NOTHING:
            if not isinstance(thing, list) or not thing:
                self.bad_rows(-1, thing)
        self.bad_rows(-1, [])
        self.bad_rows(-1, ())
        self.bad_rows(-1, (WORLD_ROW,))
        self.bad_rows(-1, text_of(WORLD))
        self.bad_rows(-1, {0: WORLD_ROW})

    def test_places(self):
        self.bad_rows(0, [("fresh",)])
        self.bad_rows(0, [("fresh",), WORLD_ROW])
        self.bad_rows(1, [WORLD_ROW, WORLD_ROW])
        self.bad_rows(2, [WORLD_ROW, ("fresh",), WORLD_ROW, ("image",)])
        self.bad_rows(1, [WORLD_ROW, None, WORLD_ROW])
        self.bad_rows(0, [None, WORLD_ROW, None])

    def test_things_of_any_kind(self):
        for thing in NOTHING:
            self.bad_rows(0, [thing])
            self.bad_rows(1, [WORLD_ROW, thing])
            self.bad_rows(2, [WORLD_ROW, ("image",), thing, thing])
            for line, row in RIGHT:
                self.bad_rows(1, [WORLD_ROW, (thing,) + row[1:]] if thing != row[0] else [WORLD_ROW, thing])
                for at in range(1, len(row)):
                    rows = [WORLD_ROW, row[:at] + (thing,) + row[at + 1:]]
                    if self.may_stand(row[0], at, thing):
                        self.assertEqual(read_script(script_text(rows)), rows)
                    else:
                        self.bad_rows(1, rows)
            for at in range(1, 4):
                row = WORLD_ROW[:at] + (thing,) + WORLD_ROW[at + 1:]
                if at == 3 and thing in ((), ("name",), ("name", "a")) or at < 3 and not isinstance(thing, bool) and thing in (0, 7):
                    self.assertEqual(read_script(script_text([row])), [row])
                else:
                    self.bad_rows(0, [row])

    def may_stand(self, word, at, thing):
        """Whether one of the things that are no EXPR may stand there."""
        if isinstance(thing, bool):
            return False
        if isinstance(thing, str):
            named = {"hand": (2,), "send": (1,), "know": ()}.get(word, (1, 2))
            return (at in named and thing != "") or (word in ("write", "writeas") and at == 3)
        if thing is None:
            return word in ("write", "writeas") and at == 3
        if isinstance(thing, int):
            return word == "hand" and at == 1 and thing in (0, 7)
        return isinstance(thing, tuple) and thing == () and word in ("change", "changeas") and at == 3

    def test_parts_more_and_fewer(self):
        for line, row in RIGHT:
            self.bad_rows(1, [WORLD_ROW, row + (None,)])
            self.bad_rows(1, [WORLD_ROW, row + ("a",)])
            self.bad_rows(1, [WORLD_ROW, row[:-1]])
            self.bad_rows(1, [WORLD_ROW, list(row)])
            self.bad_rows(1, [WORLD_ROW, (row,)])
        self.bad_rows(0, [WORLD_ROW + ("c",)])
        self.bad_rows(0, [WORLD_ROW[:3]])
        self.bad_rows(0, [list(WORLD_ROW)])
        self.bad_rows(0, [("world", 2, 1, ["a", "b"])])
        self.bad_rows(0, [("world", 2, 1, "a", "b")])
        self.bad_rows(0, [("world", 2, 1, "ab")])

    def test_names_and_numbers(self):
        for name in ("", "A", "a b", "a1", "abcdefghijklm", "-", "a\n", "a\r", "\u00e9", 0, None, b"a", ("a",)):
            for row in (("card", name), ("found", name, "r"), ("found", "a", name), ("hand", 0, name), ("send", name, POST),
                        ("change", name, "r", ()), ("write", "a", name, None), ("steal", name), ("view", name, "r")):
                self.bad_rows(1, [WORLD_ROW, row])
            self.bad_rows(0, [("world", 2, 1, ("a", name))])
        for number in (-1, 10 ** 12, 10 ** 39, -10 ** 39, True, False, "0", None, (0,), b"0"):
            self.bad_rows(1, [WORLD_ROW, ("hand", number, "a")])
            self.bad_rows(0, [("world", number, 1, ("a",))])
            self.bad_rows(0, [("world", 1, number, ("a",))])
            for word in ("change", "changeas"):
                for wish in ("add", "remove"):
                    self.bad_rows(1, [WORLD_ROW, (word, "a", "r", ((wish, number),))])
                    self.bad_rows(1, [WORLD_ROW, (word, "a", "r", (("add", 1), (wish, number)))])

    def test_wishes_and_texts(self):
        for wishes in ([], (("add", 1), ["add", 1]), [("add", 1)], ("add", 1), (("add",),), (("add", 1, 1),), (("adds", 1),), ((0, 1),), ("add",),
                       ((("add", 1),),), None, "add 1", ((None, 1),), ((("add",), 1),)):
            self.bad_rows(1, [WORLD_ROW, ("change", "a", "r", wishes)])
        for words in ("x" * 41, "\n", "a\nb", "\t", "\u00e9", 0, b"a", ("a",), True, NAME):
            for word in ("write", "writeas"):
                self.bad_rows(1, [WORLD_ROW, (word, "a", "r", words)])
        for text in ('"', "\\", "", " ", '"a" \\"', "x" * 40):
            rows = [WORLD_ROW, ("write", "a", "r", text)]
            self.assertEqual(read_script(script_text(rows)), rows)

    def test_exprs(self):
        for thing in (nested(12, POST), ("row", (POST,) * 60), ("post", [3]), ["post", (3,)], ("fresh", (0,)), ("post", (True,)), deep(3000),
                      nested(5000, POST), "post(3)"):
            self.bad_rows(1, [WORLD_ROW, ("send", "a", thing)])
            self.bad_rows(1, [WORLD_ROW, ("know", thing)])
        for thing in (nested(11, POST), ("row", (POST,) * 59)):
            rows = [WORLD_ROW, ("send", "a", thing), ("know", thing)]
            self.assertEqual(read_script(script_text(rows)), rows)

    def test_nothing_is_changed(self):
        rows = [WORLD_ROW] + [row for line, row in RIGHT]
        before = list(rows)
        self.assertEqual(script_text(rows), script_text(rows))
        self.assertEqual(rows, before)


def drawn_row(chance):
    """A row drawn by chance, that may stand behind the first one."""
    def name():
        return "".join(chance.choices("abz", k=chance.randrange(1, 13)))

    def number():
        return chance.choice((0, 1, 7, 10, 99, 10 ** 12 - 1))

    def text():
        return chance.choice((None, "".join(chance.choices('a "\\~', k=chance.randrange(41)))))

    def wishes():
        return tuple([(chance.choice(("add", "remove")), number()) for _ in range(chance.randrange(4))])

    def expr():
        found = drawn(chance, 5)
        return found if is_expr(found) else POST

    return chance.choice((
        ("card", name()), ("cardas", name()), ("found", name(), name()), ("change", name(), name(), wishes()),
        ("changeas", name(), name(), wishes()), ("write", name(), name(), text()), ("writeas", name(), name(), text()),
        ("hand", number(), name()), ("send", name(), expr()), ("steal", name()), ("leave", name(), name()), ("fresh",),
        ("know", expr()), ("view", name(), name()), ("image",),
    ))


class FactTest(ScriptCase):

    def test_rows_of_texts_of_rows(self):
        for seed in range(150):
            chance = random.Random(seed)
            rows = [("world", chance.randrange(60), chance.randrange(60), tuple(["a", "bc", "a"][:chance.randrange(4)]))]
            rows += [drawn_row(chance) for _ in range(chance.randrange(12))]
            text = script_text(rows)
            self.assertEqual(read_script(text), rows)
            self.assertEqual(script_text(read_script(text)), text)
            self.assertEqual(text.count("\n"), len(rows))

    def test_spoilt_texts(self):
        taken = 0
        for seed in range(1200):
            chance = random.Random(seed)
            text = script_text([WORLD_ROW] + [drawn_row(chance) for _ in range(3)])
            at = chance.randrange(len(text) + 1)
            text = text[:at] + chance.choice(("", " ", "a", "0", "1", "\n", '"', "\\", ")", ", ")) + text[at + chance.randrange(2):]
            try:
                rows = read_script(text)
            except BadLine as error:
                self.assertTrue(1 <= error.line <= text.count("\n") + 1)
                continue
            taken += 1
            self.assertEqual(script_text(rows), text)
        self.assertGreater(taken, 100)

    def test_texts_of_exprs(self):
        self.assertEqual(script_text([WORLD_ROW, ("know", NAME)]), text_of(WORLD, "know " + expr_text(NAME)))
        self.assertNotEqual(read_script(text_of(WORLD)), Book())


if __name__ == "__main__":
    unittest.main()
