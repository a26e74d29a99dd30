"""The world: members, the post that a stranger leads, and what the stranger knows."""

from strangerspost.books import Book, is_below, is_name_text
from strangerspost.changing import Made, posted_wishes, wished
from strangerspost.errors import BadWorld, Named, NoLetter, NoName, NoRoom, NoWords, Unknown
from strangerspost.keyrings import EpochKeys
from strangerspost.knowing import Knower
from strangerspost.ledger import Ledger
from strangerspost.members import Member, Room
from strangerspost.shapes import card_term, context_term, found_term, letter_term, told_context
from strangerspost.taking import Entry, come_to, taken
from strangerspost.terms import lock_term, made_term, name_term
from strangerspost.trees import Tree, members, tree_term
from strangerspost.words import is_word

MOST_NAMES = 12
MOST_COUNT = 50


def is_names(thing):
    """Whether a thing is a tuple of unlike names for the members of a world."""
    if not isinstance(thing, tuple) or not 1 <= len(thing) <= MOST_NAMES:
        return False
    return all([is_word(name) for name in thing]) and len({name: True for name in thing}) == len(thing)


class World:
    """Members and their rooms, over a post that a stranger leads."""

    def __init__(self, names, window, keep):
        if not is_names(names):
            raise BadWorld("names")
        if not is_below(MOST_COUNT + 1, window):
            raise BadWorld("window")
        if not is_below(MOST_COUNT + 1, keep):
            raise BadWorld("keep")
        self.names = names
        self.window = window
        self.keep = keep
        self.book = Book()
        self.ledger = Ledger()
        self.posted = []
        # What the stranger knows of all that it got, and of all but the stores that it stole.
        self.knower = Knower(self.book)
        self.openly = Knower(self.book)
        self.held = {name: Member(name, self.book.fresh()) for name in names}
        for at, name in enumerate(names):
            self.ledger.give(("mark", at), self.held[name].marks)
            self._tell(lock_term(self.book, self.held[name].marks))

    def card(self, member):
        """Hands in a card of a member: its number in the post."""
        holder = self.holder(member)
        key, entry = self.book.fresh(), self.book.fresh()
        number = self._hand_in_card(holder, key, entry)
        holder.cards.append((number, key, entry))
        return number

    def found(self, member, room):
        """Founds a room of a member alone: the number of what is handed in."""
        holder = self.holder(member)
        if not is_word(room):
            raise NoName()
        if room in holder.joined:
            raise Named()
        book = self.book
        key, epoch_key = book.fresh(), book.fresh()
        told_tree = Tree(0, ((member, lock_term(book, key)),), ())
        tree = tree_term(book, told_tree)
        context = context_term(book, room, 0, tree, name_term(book, "begin"))
        keys = EpochKeys(book, None, epoch_key)
        founded = Room(room, 0, {(0, 0): key})
        come_to(self, founded, keys, Entry(book, context, tree, told_tree), None)
        self.ledger.give(("first", founded.own().number), key)
        holder.joined[room] = founded
        return self._hand_in(found_term(book, context, tree))

    def change(self, member, room, wishes):
        """Hands in a change and its welcomes: the tuple of their numbers; it is pending at the member."""
        holder, joined = self.holding(member, room)
        plan = self._plan(joined, wishes)
        start = self.book.fresh()
        made = Made(self.book, holder.marks, joined, plan, start)
        joined.pending = (made.letter, start)
        return self._hand_in_change(made)

    def write(self, member, room, words):
        """Hands in a letter of words, None for a fresh term: the pair of its number and the words' term."""
        holder, joined = self.holding(member, room)
        self._check_words(words)
        term = self._words(words)
        epoch, leaf = joined.own(), joined.leaf
        place, turn = epoch.turns[leaf]
        number = self._hand_in_letter(holder, joined, made_term(self.book, "key", turn), words, term)
        behind = made_term(self.book, "next", turn)
        self.ledger.turn("turn", epoch.number, leaf, place + 1, behind)
        epoch.turns[leaf] = (place + 1, behind)
        return number, term

    def hand(self, number, member):
        """Hands what lies in the post to a member: what comes of it."""
        holder = self.holder(member)
        if not is_below(len(self.posted), number):
            raise NoLetter()
        return taken(self, holder, self.posted[number])

    def hand_term(self, term, member):
        """Hands a term that the stranger knows to a member: what comes of it."""
        holder = self.holder(member)
        if not self.knower.knows(term):
            raise Unknown()
        self._tell(term)
        return taken(self, holder, term)

    def steal(self, member):
        """Steals the store of a member: the tuple of its terms."""
        store = self.holder(member).store()
        self.ledger.theft(store, self.openly.known_among(store))
        for term in store:
            self.knower.learn(term)
        return store

    def leave(self, member, room):
        """A member lets go of all of a room."""
        holder = self.holding(member, room)[0]
        del holder.joined[room]

    def fresh(self):
        """A fresh term of the stranger's own."""
        term = self.book.fresh()
        self._tell(term)
        return term

    def card_as(self, member):
        """Hands in a card that the stranger makes in the place of a member: its number in the post."""
        holder = self.holder(member)
        self._check_known((holder.marks,))
        key, entry = self.fresh(), self.fresh()
        return self._hand_in_card(holder, key, entry)

    def change_as(self, member, room, wishes):
        """Hands in a change that the stranger makes in the place of a member: the tuple of the numbers."""
        holder, joined = self.holding(member, room)
        plan = self._plan(joined, wishes)
        epoch = joined.own()
        self._check_known((holder.marks, joined.seal, epoch.context, epoch.tree, joined.chain))
        return self._hand_in_change(Made(self.book, holder.marks, joined, plan, self.fresh()))

    def write_as(self, member, room, words):
        """Hands in a letter that the stranger writes in the place of a member: its number and the words' term."""
        holder, joined = self.holding(member, room)
        self._check_words(words)
        epoch = joined.own()
        turn = epoch.turns[joined.leaf][1]
        self._check_known((holder.marks, epoch.label))
        if not self._can_make("key", turn):
            raise Unknown()
        term = self._words(words)
        if words is None:
            self._tell(term)
        return self._hand_in_letter(holder, joined, made_term(self.book, "key", turn), words, term), term

    def store(self, member):
        """The ascending tuple of all terms that a member holds."""
        return self.holder(member).store()

    def view(self, member, room):
        """The number of a member's epoch in a room, its context, tree and seal, and the own leaf."""
        joined = self.holding(member, room)[1]
        epoch = joined.own()
        return told_context(self.book, epoch.context)[1], epoch.context, epoch.told_tree, joined.seal, joined.leaf

    def rooms(self, member):
        """The ascending list of the names of a member's rooms."""
        return sorted(self.holder(member).joined)

    def post(self):
        """The list of all that was handed in."""
        return list(self.posted)

    def bag(self):
        """The ascending list of the stranger's bag."""
        return sorted(self.knower.bag())

    def book_now(self):
        """A copy of the book."""
        return self.book.copy()

    def put(self, kind, parts):
        """The number of a term that is put into the book."""
        return self.book.put(kind, parts)

    def knows(self, term):
        """Whether the stranger knows a term."""
        return self.knower.knows(term)

    def marks_keys(self):
        """The dict from the names of the members to the keys of their marks."""
        return {name: self.held[name].marks for name in self.names}

    def copy(self):
        """The same world, going on apart."""
        other = World(self.names, self.window, self.keep)
        other.book = self.book.copy()
        other.ledger = self.ledger.copy()
        other.posted = list(self.posted)
        other.knower = self.knower.copy(other.book)
        other.openly = self.openly.copy(other.book)
        other.held = {name: self.held[name].copy() for name in self.names}
        return other

    def holder(self, member):
        """The Member of a name."""
        if not isinstance(member, str) or member not in self.held:
            raise NoName()
        return self.held[member]

    def holding(self, member, room):
        """The Member of a name, and what it holds of a room."""
        holder = self.holder(member)
        if not isinstance(room, str) or room not in holder.joined:
            raise NoRoom()
        return holder, holder.joined[room]

    def _plan(self, room, wishes):
        told = posted_wishes(self.posted, wishes)
        return wished(self.book, self.marks_keys(), room.own().told_tree, room.leaf, told)

    def _check_words(self, words):
        if words is not None and not is_name_text(words):
            raise NoWords()

    def _words(self, words):
        return self.book.fresh() if words is None else name_term(self.book, words)

    def _check_known(self, terms):
        if not all([self.knower.knows(term) for term in terms]):
            raise Unknown()

    def _can_make(self, word, key):
        """Whether the stranger knows what is made so of a key; nothing is put into the book for it."""
        label = self.book.number_of("name", (word,))
        made = None if label is None else self.book.number_of("made", (label, key))
        return self.knower.knows(key) or (made is not None and self.knower.knows(made))

    def _tell(self, term):
        """The stranger gets a term, other than by a theft."""
        self.knower.learn(term)
        self.openly.learn(term)

    def _hand_in(self, term):
        self.posted.append(term)
        self._tell(term)
        return len(self.posted) - 1

    def _hand_in_card(self, holder, key, entry):
        self.ledger.card(key, entry)
        return self._hand_in(card_term(self.book, holder.marks, holder.name, key, entry))

    def _hand_in_change(self, made):
        self.ledger.change(made.letter, made.path)
        turns = made.keyring.first_turns(self.book, members(made.coming.told_tree))
        self.ledger.epoch(made.keyring, turns)
        return tuple([self._hand_in(term) for term in [made.letter] + made.welcomes])

    def _hand_in_letter(self, holder, room, key, words, term):
        epoch, leaf = room.own(), room.leaf
        place = (epoch.label, leaf, epoch.turns[leaf][0])
        self.ledger.turn("key", epoch.number, leaf, place[2], key)
        self.ledger.message(term if words is None else None)
        return self._hand_in(letter_term(self.book, holder.marks, place, key, term))
