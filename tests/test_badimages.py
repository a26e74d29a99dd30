import random
import unittest

from strangerspost.errors import BadImage, BadWorld, PostError, Unsound
from strangerspost.images import is_image, restored, world_image
from strangerspost.world import World
from tests.histories import History
from tests.imagelines import ImageCase, kinds, lines_of, replaced, text_of, without_notes
from tests.test_images import told_world
from tests.things import deep
from tests.worlds import room_of

# Words that are no number of at most twelve figures without needless zeros.
NO_FIGURES = ("", "00", "01", "+1", "-1", "-", "1.0", "a", "1000000000000", "0" * 13, "\u0661", "1\r", "1_0", "0x1")


def with_stolen():
    """The lines of a world with lines of all kinds."""
    world = told_world()[0]
    world.steal("a")
    return lines_of(world)


class WordsTest(ImageCase):

    def test_other_words(self):
        lines = with_stolen()
        for at in [kinds(lines, word)[0] for word in (
            "world", "term", "post", "bag", "note", "member", "card", "room", "key", "chain", "been", "epoch", "turn", "kept",
            "pending",
        )]:
            word, _, rest = lines[at].partition(" ")
            for other in (word + "s", word.upper(), " " + word, "", "x", word[:-1], word + " ", "-"):
                self.bad(at + 1, replaced(lines, at, f"{other} {rest}"))
            self.bad(at + 1, replaced(lines, at, word + rest))
            self.bad(at + 1, replaced(lines, at, ""))

    def test_numbers_more_or_fewer(self):
        lines = with_stolen()
        for at, line in enumerate(lines):
            words = line.split(" ")
            if words[0] in ("term", "note"):
                continue
            if words[0] != "bag":
                self.bad(at + 1, replaced(lines, at, line + " 0"))
                self.bad(at + 1, replaced(lines, at, " ".join(words[:-1])))
                self.bad(at + 1, replaced(lines, at, words[0]))
            self.bad(at + 1, replaced(lines, at, line + " "))
            self.bad(at + 1, replaced(lines, at, line.replace(" ", "  ", 1)))
            self.bad(at + 1, replaced(lines, at, line + "\r"))

    def test_numbers_otherwise(self):
        lines = with_stolen()
        for at in [kinds(lines, word)[0] for word in (
            "world", "post", "bag", "member", "card", "room", "key", "chain", "been", "epoch", "turn", "kept", "pending",
        )]:
            words = lines[at].split(" ")
            for place in range(1, len(words)):
                for word in NO_FIGURES:
                    # A letter may be none, and is unsound then; members and rooms may be called so.
                    if (words[0], place, word) not in (("been", 2, "-"), ("member", 1, "a"), ("room", 1, "a")):
                        rows = replaced(lines, at, " ".join(words[:place] + [word] + words[place + 1:]))
                        self.bad(at + 1, rows)

    def test_numbers_of_notes(self):
        lines = with_stolen()
        firsts = {lines[at].split(" ")[1]: at for at in kinds(lines, "note")[::-1]}
        for at in firsts.values():
            words = lines[at].split(" ")
            for place in range(2, len(words)):
                for word in ("", "00", "01", "+1", "-1", "-", "1000000000000", "a"):
                    self.bad(at + 1, replaced(lines, at, " ".join(words[:place] + [word] + words[place + 1:])))
            self.bad(at + 1, replaced(lines, at, lines[at] + " "))
            self.bad(at + 1, replaced(lines, at, lines[at].replace(" ", "  ", 1)))
        at = kinds(lines, "note")[0]
        for line in ("note", "note ", "note x", "note x 0", "note 0", "note 0 0", "note Mark 0 0", "note mark", "note marks 0 0"):
            self.bad(at + 1, replaced(lines, at, line))

    def test_terms_that_are_not_there(self):
        lines = with_stolen()
        size = len(kinds(lines, "term"))
        places = {"post": [1], "bag": [-1], "member": [2], "card": [2, 3], "key": [3], "chain": [1, 2], "been": [1, 2]}
        places.update({"epoch": [1, 2], "turn": [3], "kept": [3], "pending": [1, 2]})
        for at, line in enumerate(lines):
            words = line.split(" ")
            for place in places.get(words[0], []):
                for number in (size, size + 7, 999999999999):
                    rows = list(words)
                    rows[place] = str(number)
                    self.bad(at + 1, replaced(lines, at, " ".join(rows)))

    def test_posts_that_are_not_there(self):
        lines = with_stolen()
        count = len(kinds(lines, "post"))
        for at in kinds(lines, "card"):
            words = lines[at].split(" ")
            for number in (count, count + 1, 999999999999):
                self.bad(at + 1, replaced(lines, at, " ".join(["card", str(number)] + words[2:])))
        # Without the post no card can be told.
        rows = [line for line in lines if not line.startswith("post ")]
        self.bad(kinds(rows, "card")[0] + 1, rows)

    def test_lines_of_terms(self):
        lines = with_stolen()
        for line in ("term", "term ", "term x", "term fresh 9", "term lock 0 0", "term lock 1", 'term name "', "term  fresh 0"):
            self.bad(2, replaced(lines, 1, line))
        at = kinds(lines, "term")[-1]
        for line in ("term fresh 0", lines[at - 1], f"term lock {at - 1}", f"term lock {at + 5}", "term row 00"):
            self.bad(at + 1, replaced(lines, at, line))
        last = kinds(lines, "term")[-1]
        self.bad(last + 2, lines[:last + 1] + ["term fresh 0"] + lines[last + 1:])
        self.bad(last + 2, lines[:last + 1] + [lines[last]] + lines[last + 1:])


class OrderTest(ImageCase):

    def test_lines_that_are_out(self):
        lines = with_stolen()
        self.bad(1, lines[1:])
        bag = kinds(lines, "bag")[0]
        self.bad(bag + 1, lines[:bag] + lines[bag + 1:])
        for at in kinds(lines, "room", "chain", "epoch"):
            if lines[at].startswith("epoch") and lines[at - 1].split(" ")[0] in ("turn", "kept"):
                continue
            self.bad(at + 1, lines[:at] + lines[at + 1:])

    def test_lines_that_stand_twice(self):
        lines = with_stolen()
        for at, line in enumerate(lines):
            word = line.split(" ")[0]
            # Posts and been lines may be alike, and epochs without turns are unsound.
            if word in ("world", "term", "bag", "member", "card", "room", "key", "chain", "turn", "kept", "pending"):
                self.bad(at + 2, lines[:at + 1] + lines[at:])

    def test_lines_that_are_exchanged(self):
        lines = with_stolen()
        told = 0
        pairs = {
            ("world", "term"): 0, ("post", "bag"): 1, ("bag", "note"): 0, ("note", "member"): 1, ("member", "card"): 0,
            ("card", "room"): 1, ("room", "key"): 0, ("key", "key"): 1, ("key", "chain"): 1, ("chain", "been"): 0,
            ("been", "epoch"): 1, ("epoch", "turn"): 0, ("turn", "turn"): 1, ("turn", "kept"): 0, ("kept", "kept"): 1,
            ("kept", "pending"): 1, ("pending", "room"): 1, ("turn", "epoch"): None,
        }
        for at in range(len(lines) - 1):
            one, other = lines[at].split(" ")[0], lines[at + 1].split(" ")[0]
            wrong = pairs.get((one, other))
            if wrong is not None:
                told += 1
                self.bad(at + 1 + wrong, lines[:at] + [lines[at + 1], lines[at]] + lines[at + 2:])
        self.assertGreater(told, 15)

    def test_ascending(self):
        world = World(("a", "b"), 0, 0)
        for _ in range(3):
            world.card("a")
        for room in ("s", "r"):
            world.found("a", room)
        lines = lines_of(world)
        cards = kinds(lines, "card")
        self.bad(cards[1] + 1, replaced(replaced(lines, cards[0], lines[cards[1]]), cards[1], lines[cards[0]]))
        self.bad(cards[2] + 1, replaced(lines, cards[2], lines[cards[1]]))
        rooms = kinds(lines, "room")
        self.bad(rooms[1] + 1, replaced(lines, rooms[0], "room t 0"))
        self.bad(rooms[1] + 1, replaced(lines, rooms[1], "room r 0"))
        bag = kinds(lines, "bag")[0]
        for line in ("bag 3 2", "bag 2 2", "bag 0 1 2 4 3", "bag 1 0"):
            self.bad(bag + 1, replaced(lines, bag, line))
        self.bad(bag + 2, lines[:bag + 1] + ["bag"] + lines[bag + 1:])

    def test_keys_and_turns_ascend(self):
        lines = with_stolen()
        for at in kinds(lines, "kept"):
            _, leaf, place, key = lines[at].split(" ")
            self.bad(at + 1, replaced(lines, at, f"kept {int(leaf) + 1} {place} {key}"))
        self.bad(at + 1, replaced(lines, at, f"kept 1 0 {key}"))
        self.bad(at + 1, replaced(lines, at, f"kept 0 {place} {key}"))
        for at in kinds(lines, "key")[1:]:
            if lines[at - 1].startswith("key"):
                self.bad(at + 1, replaced(lines, at, lines[at - 1]))
                self.bad(at + 1, replaced(lines, at, "key 0 0 0"))

    def test_names(self):
        lines = with_stolen()
        members = kinds(lines, "member")
        for name in ("", "A", "aB", "a1", "abcdefghijklm", "-", "0", "a\r", "\u00e9"):
            rest = lines[members[1]].split(" ")[2]
            self.bad(members[1] + 1, replaced(lines, members[1], f"member {name} {rest}"))
            room = kinds(lines, "room")[0]
            self.bad(room + 1, replaced(lines, room, f"room {name} 0"))
        self.bad(members[1] + 1, replaced(lines, members[1], lines[members[1]].replace("member a", "member b")))
        self.bad(members[1] + 1, replaced(lines, members[1], "member b 0"))

    def test_the_end_is_cut_off(self):
        lines = with_stolen()
        text = text_of(lines)
        # Within a line.
        for at in range(1, len(text)):
            if text[at - 1] != "\n" and at % 29 == 0:
                self.refused(BadImage, text[:at].count("\n") + 1, text[:at])
        self.refused(BadImage, len(lines), text[:-1])
        # Behind a line: what may end there may be unsound, or another world, and else something lacks.
        bag = kinds(lines, "bag")[0]
        ends = []
        for at in range(len(lines)):
            head = lines[at - 1].split(" ")[0] if at > 0 else ""
            if at <= bag or head in ("room", "key"):
                self.bad(at + 1, lines[:at])
                continue
            try:
                self.assertEqual(world_image(restored(text_of(lines[:at]))), text_of(lines[:at]))
                ends.append(head)
            except PostError as error:
                self.assertIn(error.__class__, (BadWorld, Unsound))
        self.assertEqual(ends, ["member", "card", "turn", "kept", "kept", "pending", "turn", "member", "card"])

    def test_something_stands_behind_the_end(self):
        lines = with_stolen()
        text = text_of(lines)
        for behind in (" ", "x", "\r", "member c 0", "pending 0 0"):
            self.refused(BadImage, len(lines) + 1, text + behind)
        for behind in ("\n", "x\n", "world 1 1\n", "term fresh 99\n", "bag\n", "note mark 0 0\n", "key 0 0 0\n"):
            self.refused(BadImage, len(lines) + 1, text + behind)

    def test_texts_that_are_none(self):
        self.bad(1, [])
        self.bad(1, [""])
        self.bad(1, ["", ""])
        self.refused(BadImage, 1, " ")
        self.refused(BadImage, 2, "world 1 1\n")
        self.refused(BadImage, 2, "world 1 1\nbag")
        self.refused(BadImage, 1, "fresh 0\n")
        self.assertFalse(is_image(deep(40)))

    def test_the_first_of_two_wrong_lines(self):
        lines = with_stolen()
        chance = random.Random(5)
        for _ in range(60):
            one, other = sorted(chance.sample(range(len(lines)), 2))
            rows = replaced(replaced(lines, one, "x"), other, chance.choice(("", "y", "world 1 1")))
            self.bad(one + 1, rows)

    def test_bad_image_ahead_of_all_else(self):
        lines = with_stolen()
        rows = replaced(lines, 0, "world 51 51")
        self.bad_world("window", rows)
        self.bad(len(rows) + 1, rows + ["x"])
        self.bad(kinds(rows, "bag")[0] + 1, replaced(rows, kinds(rows, "bag")[0], "bag 1 0"))


class BadWorldTest(ImageCase):

    def test_window_and_keep(self):
        lines = with_stolen()
        for line, part in (
            ("world 51 1", "window"), ("world 999999999999 1", "window"), ("world 3 51", "keep"), ("world 51 51", "window"),
            ("world 0 999999999999", "keep"),
        ):
            self.bad_world(part, replaced(lines, 0, line))
        self.taken(replaced(lines, 0, "world 0 1"))
        self.taken(replaced(lines, 0, "world 50 1"))

    def test_names(self):
        self.bad_world("names", ["world 1 1", "bag"])
        self.bad_world("names", ["world 51 51", "bag"])
        lines = ["world 1 1"]
        for at in range(13):
            lines.extend([f"term fresh {at}", f"term lock {2 * at}"])
        lines.append("bag" + "".join([f" {2 * at + 1}" for at in range(13)]))
        members = [f"member {name} {2 * at}" for at, name in enumerate("abcdefghijklm")]
        self.bad_world("names", lines + members)
        self.bad_world("names", ["world 51 51"] + lines[1:] + members)
        self.taken(lines + members[1:])
        self.taken(lines + members[:1])

    def test_it_is_told_ahead_of_what_is_unsound(self):
        lines = with_stolen()
        bag = kinds(lines, "bag")[0]
        rows = replaced(lines, bag, "bag")
        self.unsound(1, rows)
        self.bad_world("keep", replaced(rows, 0, "world 1 99"))


class OtherRightImagesTest(ImageCase):

    def test_less_is_held(self):
        world = told_world()[0]
        lines = lines_of(world)
        for at in kinds(lines, "card", "pending", "kept"):
            other = self.taken(lines[:at] + lines[at + 1:])
            self.assertEqual(other.post(), world.post())
        at = [at for at in kinds(lines, "key") if lines[at].startswith("key 1")][0]
        self.assertNotEqual(self.taken(lines[:at] + lines[at + 1:]).store("b"), world.store("b"))
        room, member = kinds(lines, "room")[1], kinds(lines, "member")[1]
        other = self.taken(lines[:room] + lines[member:])
        self.assertEqual((other.rooms("b"), other.rooms("a")), (["r"], ["r"]))

    def test_other_counts_and_orders(self):
        world = told_world()[0]
        lines = lines_of(world)
        for window in (0, 7, 50):
            self.assertEqual(self.taken(replaced(lines, 0, f"world {window} 1")).window, window)
        members = kinds(lines, "member")
        rows = lines[:members[0]] + lines[members[1]:] + lines[members[0]:members[1]]
        self.assertEqual(self.taken(rows).names, ("a", "b"))

    def test_more_is_there(self):
        world = told_world()[0]
        lines = lines_of(world)
        size = world.book_now().size()
        terms = kinds(lines, "term")
        rows = lines[:terms[-1] + 1] + ['term name "more"', f"term lock {size}"] + lines[terms[-1] + 1:]
        self.assertEqual(self.taken(rows).book_now().size(), size + 2)
        bag = kinds(rows, "bag")[0]
        more = replaced(rows, bag, f"{rows[bag]} {size} {size + 1}")
        other = self.taken(more)
        self.assertEqual(other.bag(), world.bag() + [size, size + 1])
        post = kinds(more, "post")[-1]
        other = self.taken(more[:post + 1] + [f"post {size + 1}"] + more[post + 1:])
        self.assertEqual(other.post(), world.post() + [size + 1])
        self.assertEqual(other.hand(len(world.post()), "a"), ("refused", "unlike"))

    def test_the_bag_may_lack_what_was_stolen(self):
        world = told_world()[0]
        world.steal("a")
        context = world.view("a", "r")[1]
        world.hand_term(context, "b")
        lines = lines_of(world)
        bag = kinds(lines, "bag")[0]
        must = set(world.post()) | {world.book_now().number_of("lock", (key,)) for key in world.marks_keys().values()}
        for term in world.bag():
            words = [word for word in lines[bag].split(" ") if word != str(term)]
            rows = replaced(lines, bag, " ".join(words))
            if term in must:
                self.unsound(1, rows)
            else:
                self.assertEqual(self.taken(rows).bag(), [other for other in world.bag() if other != term])


class NotesTest(ImageCase):

    def test_whatever_notes_are_changed(self):
        # Notes are free: but none of them lets out another error, or is restored to another image.
        taken = 0
        for seed in range(250):
            chance = random.Random(seed)
            history = History(chance, ("a", "b"), True)
            world = history.go(chance.randrange(5, 30))
            lines = lines_of(world)
            notes = kinds(lines, "note")
            for _ in range(chance.randrange(1, 3)):
                at = chance.choice(notes)
                words = lines[at].split(" ")
                place = chance.randrange(len(words))
                how = chance.randrange(4)
                if how == 0 and place > 1:
                    words[place] = str(chance.randrange(90))
                elif how == 1:
                    del words[place]
                elif how == 2:
                    words.append(str(chance.randrange(90)))
                else:
                    words = lines[chance.choice(notes)].split(" ")
                lines[at] = " ".join(words)
            try:
                other = restored(text_of(lines))
            except (BadImage, Unsound) as error:
                if error.__class__ is Unsound:
                    self.assertEqual(error.sentence, 9)
                continue
            taken += 1
            self.assertEqual(world_image(other), text_of(lines))
            History.go(self.going_on(history, other, chance), 10)
            self.assertTrue(is_image(world_image(other)))
        self.assertGreater(taken, 15)

    def going_on(self, history, world, chance):
        history.world, history.chance = world, chance
        return history

    def test_without_notes(self):
        lines = without_notes(lines_of(World(("a", "b"), 1, 1)))
        self.taken(lines)
        self.unsound(9, without_notes(lines_of(room_of("ab"))))


if __name__ == "__main__":
    unittest.main()
