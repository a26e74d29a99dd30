"""The notes of images: what the ledger of a world has, as this program writes it."""

import unittest

from strangerspost.world import World
from strangerspost.worldrules import names, reach, seen_words, term_of
from tests.imagelines import ImageCase, kinds, lines_of, replaced
from tests.test_images import asked
from tests.worlds import handed, room_of


def notes_of(world):
    """The notes of a world without their first word, each as a list of words."""
    return [line.split(" ")[1:] for line in lines_of(world) if line.startswith("note ")]


class NotesCase(ImageCase):

    def world(self):
        """A world with notes of all kinds but other names."""
        world = room_of("ab")
        world.write("a", "r", None)
        world.write("a", "r", "text")
        world.steal("b")
        world.hand_term(world.view("b", "r")[1], "a")
        return world

    def first(self, lines, word):
        return [at for at in kinds(lines, "note") if lines[at].split(" ")[1] == word][0]


class ByHandTest(NotesCase):

    def test_a_new_world(self):
        world = World(("a", "b"), 1, 1)
        marks = [world.store(name)[0] for name in "ab"]
        self.assertEqual(notes_of(world), [["mark", str(marks[0]), "0"], ["mark", str(marks[1]), "1"]])

    def test_all_kinds(self):
        world = self.world()
        book = world.book_now()
        notes = notes_of(world)
        told = {}
        for words in notes:
            told.setdefault(words[0], []).append([int(word) for word in words[1:]])
        for name in names(world):
            self.assertIn([term_of(world, name)] + list(name[1:]), told[name[0]])
        self.assertEqual(told["cards"], [[1]])
        change = [term for term in world.post() if book.kind(term) == "row" and book.kind(book.parts(term)[0]) == "mark"]
        self.assertEqual(told["led"], [change])
        keys = [term_of(world, ("epoch", e)) for e in (0, 1)]
        self.assertEqual([row[:3] for row in told["came"]], [
            [key, term_of(world, ("chain", e)), term_of(world, ("seal", e))] for e, key in enumerate(keys)])
        self.assertEqual(told["said"], [[0, term_of(world, ("words", 0))], [1]])
        store = list(world.store("b"))
        self.assertEqual(told["theft"], [store])
        self.assertEqual(told["got"], [[world.view("b", "r")[1]]])
        order = [words[0] for words in notes]
        self.assertEqual(order[-8:], ["cards", "led", "came", "came", "said", "said", "theft", "got"])

    def test_other_names(self):
        lines = lines_of(self.world())
        # None but in rooms made up: so they are put in by hand, of terms that have no name.
        at = self.first(lines, "cards")
        trees = [line.split(" ")[2] for line in lines if line.startswith("epoch ")]
        first = f"note other {trees[0]} 0"
        world = self.taken(lines[:at] + [first] + lines[at:])
        self.assertEqual(term_of(world, ("other", 0)), int(trees[0]))
        chest = [str(at - 1) for at in kinds(lines, "term") if lines[at].startswith("term box")][0]
        second = f"note other {chest} 1"
        self.taken(lines[:at] + [first, second] + lines[at:])
        self.bad(at + 1, lines[:at] + [second] + lines[at:])
        self.bad(at + 1, lines[:at] + [second, first] + lines[at:])
        self.bad(at + 2, lines[:at] + [first, f"note other {chest} 0"] + lines[at:])
        self.bad(at + 2, lines[:at] + [first, f"note other {chest} 2"] + lines[at:])
        # The next one that is stolen has the next number.
        world = self.taken(lines[:at] + [first, second] + lines[at:])
        self.assertEqual(world.ledger.other_count, 2)
        self.assertEqual([name for name in names(world) if name[0] == "other"], [("other", 0), ("other", 1)])


class WrongTest(NotesCase):

    def test_names(self):
        lines = lines_of(self.world())
        count = len(kinds(lines, "term"))
        for word, numbers in (
            ("mark", 1), ("leaf", 1), ("entry", 1), ("path", 2), ("node", 2), ("root", 1), ("join", 1), ("epoch", 1), ("chain", 1),
            ("letters", 1), ("seal", 1), ("first", 1), ("turn", 3), ("key", 3), ("words", 1),
        ):
            at = self.first(lines, word)
            words = lines[at].split(" ")
            self.assertEqual(len(words), numbers + 3)
            # A name or a term that has been told, or that is told behind it.
            other = self.first(lines, "path" if word != "path" else "turn")
            place, term = max(at, other), lines[other].split(" ")[2]
            self.bad(place + 1, replaced(lines, at, " ".join(words[:2] + [term] + words[3:])))
            self.bad(at + 2, lines[:at + 1] + [" ".join(words[:2] + [str(count - 1)] + words[3:])] + lines[at + 1:])
            self.bad(at + 2, lines[:at + 1] + [" ".join(words[:-1] + ["77"])] + lines[at + 1:])
            self.bad(at + 1, replaced(lines, at, " ".join(words[:2] + [str(count)] + words[3:])))
            self.bad(at + 1, replaced(lines, at, " ".join(words[:-1])))
            self.bad(at + 1, replaced(lines, at, " ".join(words + ["0"])))
            self.taken(replaced(lines, at, " ".join(words[:-1] + ["999999999999"])))

    def test_counts_and_lots(self):
        lines = lines_of(self.world())
        count = len(kinds(lines, "term"))
        wrong = {
            "cards": ["0", "", "1 1"], "led": ["", "0 1", str(count)], "came": ["", "0", "0 1", f"0 1 {count}", "0 1 2 3 3", f"{count} 1 2"],
            "said": ["", "1", "0 1 2", f"0 {count}"], "theft": ["", "1 0", "1 1", str(count), f"0 {count}"],
            "got": ["", "1 0", "1 1", str(count), "0"],
        }
        for word, rests in wrong.items():
            at = self.first(lines, word)
            for rest in rests:
                self.bad(at + 1, replaced(lines, at, f"note {word} {rest}".rstrip() if rest == "" else f"note {word} {rest}"))
        self.taken(replaced(lines, self.first(lines, "cards"), "note cards 999999999999"))
        at = self.first(lines, "cards")
        self.taken(lines[:at] + lines[at + 1:])

    def test_twice(self):
        lines = lines_of(self.world())
        for word in ("cards", "led", "came", "said", "got"):
            at = self.first(lines, word)
            self.bad(at + 2, lines[:at + 1] + lines[at:])
        # Two thefts may be alike.
        at = self.first(lines, "theft")
        world = self.taken(lines[:at + 1] + lines[at:])
        self.assertEqual(reach(world, 0), reach(world, 1))
        self.assertEqual(seen_words(world), seen_words(self.world()))

    def test_orders(self):
        lines = lines_of(self.world())
        words = ["words", "cards", "led", "came", "said", "theft", "got"]
        for one, word in enumerate(words):
            for other in [other for other in words[:one] if other not in ("said", "theft")]:
                # What stands ahead of it is put behind it.
                at, place = self.first(lines, word), self.first(lines, other)
                self.bad(at + 1, lines[:place] + lines[place + 1:at + 1] + [lines[place]] + lines[at + 1:])
        at, place = self.first(lines, "said"), self.first(lines, "theft")
        self.bad(place + 1, lines[:at] + [lines[at]] + lines[at + 2:place + 1] + [lines[at + 1]] + lines[place + 1:])
        # Nothing was stolen ahead of it.
        at = self.first(lines, "got")
        self.bad(at, lines[:at - 1] + [lines[at], lines[at - 1]] + lines[at + 1:])

    def test_what_is_got_was_stolen(self):
        world = self.world()
        lines = lines_of(world)
        at = self.first(lines, "got")
        stolen = sorted(set(world.store("b")))
        for term in range(world.book_now().size()):
            rows = replaced(lines, at, f"note got {term}")
            if term in stolen:
                other = self.taken(rows)
                self.assertIn(term, other.openly.bag())
            else:
                self.bad(at + 1, rows)
        # Without it what was stolen is not open.
        other = self.taken(lines[:at] + lines[at + 1:])
        self.assertNotIn(world.view("b", "r")[1], other.openly.bag())
        theft = self.first(lines, "theft")
        self.bad(theft + 1, replaced(lines, theft)[:theft] + lines[theft + 1:])


class GoingOnTest(NotesCase):

    def test_counts_go_on(self):
        world = self.world()
        other = self.taken(lines_of(world))
        for one in (world, other):
            card = one.card("b")
            one.leave("b", "r")
            handed(one, one.change("a", "r", (("remove", 1),)), "a")
            handed(one, one.change("a", "r", (("add", card),)))
            one.write("b", "r", None)
            one.steal("a")
        self.assertEqual(asked(other), asked(world))
        self.assertIn(("leaf", 1), names(other))
        self.assertIn(("words", 2), names(other))
        self.assertIn(("root", 2), names(other))
        self.assertIn(("seal", 3), names(other))


if __name__ == "__main__":
    unittest.main()
