"""Trees of keys."""

from strangerspost.books import is_below
from strangerspost.errors import BadTree, Named, NoLeaf, NoLock, NoLocks, NoName, NoNode, NoTerm, TreeFull
from strangerspost.terms import name_term, number_term, row_term, told_part, told_row
from strangerspost.words import ascends, is_number, is_word

MOST_HEIGHT = 8


def is_pair(thing):
    """Whether a thing is a tuple of two."""
    return isinstance(thing, tuple) and len(thing) == 2


def is_member(thing):
    """Whether a thing is a pair of a name and a lock."""
    return is_pair(thing) and is_word(thing[0]) and is_number(thing[1])


def is_leaves(height, thing):
    """Whether a thing is the leaves of a tree of this height."""
    if not isinstance(thing, tuple) or len(thing) != 1 << height:
        return False
    having = [leaf for leaf in thing if leaf is not None]
    return all([is_member(leaf) for leaf in having]) and len({leaf[0]: True for leaf in having}) == len(having)


def is_node(height, thing):
    """Whether a thing is a node, or a leaf, of a tree of this height."""
    return is_pair(thing) and is_below(height + 1, thing[0]) and is_below(1 << (height - thing[0]), thing[1])


def is_kept_node(height, leaves, thing):
    """Whether a thing is a triple of a node above leaves, its lock and the leaves aside."""
    if not isinstance(thing, tuple) or len(thing) != 3:
        return False
    node, lock, aside = thing
    if not is_node(height, node) or node[0] == 0 or not is_number(lock) or not isinstance(aside, tuple):
        return False
    if not all([is_below(len(leaves), leaf) for leaf in aside]) or not ascends(aside):
        return False
    return all([leaf >> node[0] == node[1] and leaves[leaf] is not None for leaf in aside])


def is_nodes(height, leaves, thing):
    """Whether a thing is the nodes that are not blank of a tree of this height with these leaves."""
    if not isinstance(thing, tuple) or not all([is_kept_node(height, leaves, row) for row in thing]):
        return False
    return ascends([row[0] for row in thing])


class Tree:
    """A tree of keys: who is at its leaves, and who holds the keys of the nodes above."""

    def __init__(self, height, leaves, nodes):
        if not is_below(MOST_HEIGHT + 1, height):
            raise BadTree("height")
        if not is_leaves(height, leaves):
            raise BadTree("leaves")
        if not is_nodes(height, leaves, nodes):
            raise BadTree("nodes")
        self.height = height
        self.leaves = leaves
        self.nodes = nodes

    def __eq__(self, other):
        if not isinstance(other, Tree):
            return False
        return self.height == other.height and self.leaves == other.leaves and self.nodes == other.nodes


def check_leaf(tree, leaf):
    """Raises NoLeaf for what is no leaf of a tree."""
    if not is_below(len(tree.leaves), leaf):
        raise NoLeaf()


def check_member(tree, leaf):
    """Raises NoLeaf for what is no leaf of a tree with a member."""
    check_leaf(tree, leaf)
    if tree.leaves[leaf] is None:
        raise NoLeaf()


def path(tree, leaf):
    """The tuple of the nodes above a leaf, from level 1 to the root."""
    check_leaf(tree, leaf)
    return tuple([(level, leaf >> level) for level in range(1, tree.height + 1)])


def beside(tree, leaf):
    """The tuple of the other nodes beneath each node above a leaf."""
    check_leaf(tree, leaf)
    return tuple([(level, (leaf >> level) ^ 1) for level in range(tree.height)])


def kept_nodes(tree):
    """The dict from the nodes that are not blank to their locks and the leaves aside."""
    return {node: (lock, aside) for node, lock, aside in tree.nodes}


def resolution(tree, node):
    """The tuple of the nodes that together have all members beneath a node."""
    if not is_node(tree.height, node):
        raise NoNode()
    kept = kept_nodes(tree)
    found = []
    waiting = [node]
    while waiting:
        level, at = waiting.pop()
        if level == 0:
            found.extend([(0, at)] if tree.leaves[at] is not None else [])
        elif (level, at) in kept:
            found.append((level, at))
            found.extend([(0, leaf) for leaf in kept[(level, at)][1]])
        else:
            waiting.append((level - 1, 2 * at + 1))
            waiting.append((level - 1, 2 * at))
    return tuple(found)


def members(tree):
    """The ascending tuple of the leaves with members."""
    return tuple([leaf for leaf, member in enumerate(tree.leaves) if member is not None])


def meeting(tree, one, other):
    """The lowest node above both of two leaves."""
    check_leaf(tree, one)
    check_leaf(tree, other)
    if one == other:
        raise NoLeaf()
    level = (one ^ other).bit_length()
    return level, one >> level


def holders(tree, node):
    """The ascending tuple of the members beneath a node that hold its key."""
    if not is_node(tree.height, node):
        raise NoNode()
    level, at = node
    kept = kept_nodes(tree)
    if level > 0 and node not in kept:
        return ()
    aside = kept[node][1] if level > 0 else ()
    return tuple([leaf for leaf in members(tree) if leaf >> level == at and leaf not in aside])


def with_member(tree, name, lock):
    """The tree with one more member, at the least blank leaf, and this leaf."""
    if not is_word(name):
        raise NoName()
    if not is_number(lock):
        raise NoLock()
    if name in [member[0] for member in tree.leaves if member is not None]:
        raise Named()
    height, leaves = tree.height, tree.leaves
    if None not in leaves:
        if height == MOST_HEIGHT:
            raise TreeFull()
        height, leaves = height + 1, leaves + (None,) * len(leaves)
    leaf = leaves.index(None)
    leaves = leaves[:leaf] + ((name, lock),) + leaves[leaf + 1:]
    nodes = []
    for node, held, aside in tree.nodes:
        above = leaf >> node[0] == node[1]
        nodes.append((node, held, tuple(sorted(aside + (leaf,))) if above else aside))
    return Tree(height, leaves, tuple(nodes)), leaf


def without_member(tree, leaf):
    """The tree with a leaf, and all nodes above it, blank."""
    check_member(tree, leaf)
    leaves = tree.leaves[:leaf] + (None,) + tree.leaves[leaf + 1:]
    # A leaf is aside at nodes above it alone, and these are blank then.
    nodes = [row for row in tree.nodes if leaf >> row[0][0] != row[0][1]]
    return Tree(tree.height, leaves, tuple(nodes))


def renewed(tree, leaf, locks):
    """The tree with other locks of a leaf with a member and of all nodes above it, nobody being aside."""
    check_member(tree, leaf)
    if not isinstance(locks, tuple) or len(locks) != tree.height + 1 or not all([is_number(lock) for lock in locks]):
        raise NoLocks()
    leaves = tree.leaves[:leaf] + ((tree.leaves[leaf][0], locks[0]),) + tree.leaves[leaf + 1:]
    nodes = [row for row in tree.nodes if leaf >> row[0][0] != row[0][1]]
    nodes.extend([(node, locks[node[0]], ()) for node in path(tree, leaf)])
    return Tree(tree.height, leaves, tuple(sorted(nodes)))


def tree_term(book, tree):
    """The number of the term that tells a tree."""
    locks = [member[1] for member in tree.leaves if member is not None] + [row[1] for row in tree.nodes]
    if not all([is_below(book.size(), lock) for lock in locks]):
        raise NoTerm()
    leaves = []
    for member in tree.leaves:
        blank = member is None
        leaves.append(number_term(book, 0) if blank else row_term(book, (name_term(book, member[0]), member[1])))
    nodes = []
    for node, lock, aside in tree.nodes:
        level, at = number_term(book, node[0]), number_term(book, node[1])
        nodes.append(row_term(book, (level, at, lock, row_term(book, [number_term(book, leaf) for leaf in aside]))))
    head, height = name_term(book, "tree"), number_term(book, tree.height)
    return row_term(book, (head, height, row_term(book, leaves), row_term(book, nodes)))


def tree_of(book, term):
    """The Tree that a term tells, or None."""
    parts = told_row(book, term, 4)
    if parts is None or told_part(book, "name", parts[0]) != "tree":
        return None
    rows = [told_row(book, part, None) for part in parts[2:]]
    if None in rows:
        return None
    leaves = [told_leaf(book, leaf) for leaf in rows[0]]
    nodes = [told_node(book, node) for node in rows[1]]
    try:
        return Tree(told_part(book, "number", parts[1]), tuple(leaves), tuple(nodes))
    except BadTree:
        return None


def told_leaf(book, term):
    """The member, or None for a blank leaf, that a term tells; () for terms that tell none."""
    if told_part(book, "number", term) == 0:
        return None
    parts = told_row(book, term, 2)
    return () if parts is None else (told_part(book, "name", parts[0]), parts[1])


def told_node(book, term):
    """The node, lock and leaves aside that a term tells; () for terms that tell none."""
    parts = told_row(book, term, 4)
    aside = None if parts is None else told_row(book, parts[3], None)
    if aside is None:
        return ()
    node = (told_part(book, "number", parts[0]), told_part(book, "number", parts[1]))
    return node, parts[2], tuple([told_part(book, "number", leaf) for leaf in aside])
