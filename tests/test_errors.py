import copy
import inspect
import pickle
import unittest

from strangerspost import errors
from strangerspost.errors import PostError

PLAIN = (
    "NoKind", "NoParts", "NoTerm", "NoTerms", "NoBag", "NoBags", "NoName", "NoLock", "NoLeaf", "NoNode", "Named",
    "TreeFull", "NoLocks", "NoRoom", "NoWords", "NoLetter", "Unknown", "NoLot", "NoFact", "NoTheft", "NoEpoch",
)

FIELDS = {
    "BadTerm": "at", "TooLong": "most", "BadTree": "part", "BadWorld": "part", "BadWish": "at", "BadRule": "part",
    "TooMany": "most", "BadImage": "line", "Unsound": "sentence", "BadLine": "line", "BadRows": "at",
}

VALUES = (0, -1, 10 ** 39, True, False, None, "", "height", b"x", (), ("ground", 3), [1, [2]], {"a": [1]}, PostError())


def made(name):
    error = getattr(errors, name)
    return error(7) if name in FIELDS else error()


class ErrorsTest(unittest.TestCase):

    def test_there_are_just_these(self):
        found = [name for name, thing in vars(errors).items() if inspect.isclass(thing)]
        self.assertEqual(sorted(found), sorted(["PostError", *PLAIN, *FIELDS]))

    def test_bases(self):
        self.assertEqual(PostError.__bases__, (ValueError,))
        for name in (*PLAIN, *FIELDS):
            with self.subTest(name):
                self.assertEqual(getattr(errors, name).__bases__, (PostError,))
                self.assertEqual(getattr(errors, name).__module__, "strangerspost.errors")

    def test_of_no_other_class(self):
        for name in (*PLAIN, *FIELDS):
            for other in (*PLAIN, *FIELDS):
                with self.subTest(name=name, other=other):
                    self.assertEqual(isinstance(made(name), getattr(errors, other)), name == other)

    def test_without_fields(self):
        for name in (*PLAIN, "PostError"):
            with self.subTest(name):
                self.assertEqual(vars(made(name)), {})
                for value in VALUES:
                    with self.assertRaises(TypeError):
                        getattr(errors, name)(value)

    def test_with_fields(self):
        for name, field in FIELDS.items():
            for value in VALUES:
                with self.subTest(name=name, value=value):
                    error = getattr(errors, name)(value)
                    self.assertIs(getattr(error, field), value)
                    self.assertEqual(list(vars(error)), [field])
                    self.assertIsInstance(str(error), str)

    def test_made_with_just_one_field(self):
        for name in FIELDS:
            with self.subTest(name):
                with self.assertRaises(TypeError):
                    getattr(errors, name)()
                with self.assertRaises(TypeError):
                    getattr(errors, name)(1, 2)

    def test_caught_as_each_base(self):
        for name in (*PLAIN, *FIELDS):
            for base in (getattr(errors, name), PostError, ValueError):
                with self.subTest(name=name, base=base):
                    with self.assertRaises(base):
                        raise made(name)

    def test_equal_to_nothing_else(self):
        self.assertNotEqual(errors.BadTerm(3), errors.BadWish(3))
        self.assertNotEqual(errors.BadTerm(3), 3)
        self.assertNotEqual(errors.NoTerm(), None)

    def test_copied_and_kept(self):
        for name in (*PLAIN, *FIELDS):
            with self.subTest(name):
                error = made(name)
                for other in (copy.copy(error), pickle.loads(pickle.dumps(error))):
                    self.assertIs(other.__class__, error.__class__)
                    self.assertEqual(vars(other), vars(error))
