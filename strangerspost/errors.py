"""The errors of the package."""


class PostError(ValueError):
    """What all errors of the package derive from."""

    # Without this, errors without fields would take whatever is passed.
    def __init__(self):
        pass


class NoKind(PostError):
    """Raised for what is no kind of a term that can be put in."""


class NoParts(PostError):
    """Raised for what is no tuple of parts of a kind."""


class NoTerm(PostError):
    """Raised for what is no number of a term."""


class NoTerms(PostError):
    """Raised for what is no list or tuple of terms."""


class NoBag(PostError):
    """Raised for what is no bag of terms."""


class NoBags(PostError):
    """Raised for what is no list of bags."""


class NoName(PostError):
    """Raised for what is no name."""


class NoLock(PostError):
    """Raised for what is no lock."""


class NoLeaf(PostError):
    """Raised for what is no leaf of a tree."""


class NoNode(PostError):
    """Raised for what is no node of a tree."""


class Named(PostError):
    """Raised for a name that is there already."""


class TreeFull(PostError):
    """Raised for a tree that would be too high."""


class NoLocks(PostError):
    """Raised for what is no tuple of locks for a path."""


class NoRoom(PostError):
    """Raised for a room in which the member is not."""


class NoWords(PostError):
    """Raised for what is no words."""


class NoLetter(PostError):
    """Raised for what is no number of the post."""


class Unknown(PostError):
    """Raised for what the stranger does not know."""


class NoLot(PostError):
    """Raised for what is no lot of grounds."""


class NoFact(PostError):
    """Raised for what is no fact."""


class NoTheft(PostError):
    """Raised for what is no number of a theft."""


class NoEpoch(PostError):
    """Raised for what is no number of an epoch."""


class BadTerm(PostError):
    """Raised for a text that tells no term, with the place of its first wrong sign."""

    def __init__(self, at):
        self.at = at


class TooLong(PostError):
    """Raised for a text with more signs than it may have."""

    def __init__(self, most):
        self.most = most


class BadTree(PostError):
    """Raised for what makes no tree, with the part that is wrong."""

    def __init__(self, part):
        self.part = part


class BadWorld(PostError):
    """Raised for what makes no world, with the part that is wrong."""

    def __init__(self, part):
        self.part = part


class BadWish(PostError):
    """Raised for wishes that are none, with the first wrong one."""

    def __init__(self, at):
        self.at = at


class BadRule(PostError):
    """Raised for what makes no rule, with the part that is wrong."""

    def __init__(self, part):
        self.part = part


class TooMany(PostError):
    """Raised for more than may be asked about."""

    def __init__(self, most):
        self.most = most


class BadImage(PostError):
    """Raised for a text that is no image, with its first wrong line."""

    def __init__(self, line):
        self.line = line


class Unsound(PostError):
    """Raised for an image of what cannot be, with the sentence that it breaks."""

    def __init__(self, sentence):
        self.sentence = sentence


class BadLine(PostError):
    """Raised for a text that is no script, with its first wrong line."""

    def __init__(self, line):
        self.line = line


class BadRows(PostError):
    """Raised for rows that make no script, with the first wrong one."""

    def __init__(self, at):
        self.at = at
