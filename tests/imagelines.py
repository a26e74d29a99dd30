"""Images of worlds as lists of lines that tests take apart and put together."""

import unittest

from strangerspost.errors import BadImage, BadWorld, PostError, Unsound
from strangerspost.images import is_image, restored, world_image


def lines_of(world):
    """The lines of a world's image."""
    return world_image(world).split("\n")[:-1]


def text_of(lines):
    return "".join([line + "\n" for line in lines])


def without_notes(lines):
    return [line for line in lines if not line.startswith("note ")]


def kinds(lines, *words):
    """The places of the lines that begin with one of some words."""
    return [at for at, line in enumerate(lines) if line.split(" ")[0] in words]


def replaced(lines, at, *others):
    """The lines with others in the place of one."""
    return lines[:at] + list(others) + lines[at + 1:]


class ImageCase(unittest.TestCase):

    def refused(self, error, field, text):
        """A text is no image, for just this error."""
        with self.assertRaises(PostError) as caught:
            restored(text)
        self.assertIs(caught.exception.__class__, error, (vars(caught.exception), text))
        self.assertEqual(list(vars(caught.exception).values()), [field], text)
        self.assertIs(is_image(text), False)

    def bad(self, line, lines):
        self.refused(BadImage, line, text_of(lines))

    def bad_world(self, part, lines):
        self.refused(BadWorld, part, text_of(lines))

    def unsound(self, sentence, lines):
        self.refused(Unsound, sentence, text_of(lines))

    def taken(self, lines):
        """The world of an image, whose image is the same text."""
        text = text_of(lines)
        self.assertIs(is_image(text), True)
        world = restored(text)
        self.assertEqual(world_image(world), text)
        return world
