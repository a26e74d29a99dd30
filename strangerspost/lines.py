"""The lines of images, read one behind another."""

from strangerspost.books import NUMBER_BOUND
from strangerspost.errors import BadImage

MOST_FIGURES = 12


def plain_number(word):
    """The number that a word of at most twelve figures, without needless zeros, tells, or None."""
    if not 1 <= len(word) <= MOST_FIGURES or not all(["0" <= sign <= "9" for sign in word]):
        return None
    return int(word) if word[0] != "0" or word == "0" else None


class Lines:
    """The lines of a text, and which one is read next."""

    def __init__(self, text):
        if not isinstance(text, str):
            raise BadImage(0)
        # What stands behind the last line feed is no line.
        self.rows = text.split("\n")
        self.left = self.rows.pop()
        self.at = 0

    def row(self):
        """The next line, or None."""
        return self.rows[self.at] if self.at < len(self.rows) else None

    def head(self):
        """The first word of the next line, or None."""
        row = self.row()
        return None if row is None else row.partition(" ")[0]

    def tail(self, head, count):
        """The list of so many words that stand behind the first one, this one, in the next line."""
        row = self.row()
        words = [] if row is None else row.split(" ")
        if len(words) != count + 1 or words[0] != head:
            raise BadImage(self.at + 1)
        return words[1:]

    def numbers(self, words, bounds):
        """The tuple of the numbers that words of the next line tell, each below its bound, if it has one."""
        found = []
        for word, bound in zip(words, bounds):
            number = plain_number(word)
            if number is None or number >= (NUMBER_BOUND if bound is None else bound):
                raise BadImage(self.at + 1)
            found.append(number)
        return tuple(found)

    def check(self, right):
        """Raises BadImage for the next line unless it is right."""
        if not right:
            raise BadImage(self.at + 1)

    def step(self):
        """Goes on to the line behind."""
        self.at += 1

    def close(self):
        """Raises BadImage unless all is read."""
        if self.at < len(self.rows) or self.left != "":
            raise BadImage(self.at + 1)
