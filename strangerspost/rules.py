"""Rules: facts, clauses that tell how they hold of others, and grounds of facts."""

from strangerspost.books import is_below
from strangerspost.errors import BadRule, NoFact, NoLot, TooMany
from strangerspost.leastlots import least_lots
from strangerspost.words import ascends, is_word

NUMBER_BOUND = 10 ** 12
MOST_NUMBERS = 4
MOST_BODY = 4
MOST_CLAUSES = 20000
MOST_GROUNDS = 60
MOST_FACTS = 5000
MOST_ASKED = 16


def is_fact(thing):
    """Whether a thing is a fact."""
    if not isinstance(thing, tuple) or not 1 <= len(thing) <= 1 + MOST_NUMBERS:
        return False
    return is_word(thing[0]) and all([is_below(NUMBER_BOUND, number) for number in thing[1:]])


def is_tuple_of(most, thing):
    """Whether a thing is a tuple of at most so many."""
    return isinstance(thing, tuple) and len(thing) <= most


def is_facts(most, thing):
    """Whether a thing is a tuple of at most so many facts."""
    return is_tuple_of(most, thing) and all([is_fact(fact) for fact in thing])


def is_clause(thing):
    """Whether a thing is a clause."""
    return is_tuple_of(2, thing) and len(thing) == 2 and is_facts(MOST_BODY, thing[0]) and is_fact(thing[1])


class Rule:
    """Clauses, and grounds of facts."""

    def __init__(self, clauses, grounds):
        if not is_tuple_of(MOST_CLAUSES, clauses):
            raise BadRule("clauses")
        if not is_tuple_of(MOST_GROUNDS, grounds):
            raise BadRule("grounds")
        for at, clause in enumerate(clauses):
            if not is_clause(clause):
                raise BadRule(at)
        for at, ground in enumerate(grounds):
            if not is_facts(MOST_FACTS, ground):
                raise BadRule(("ground", at))
        self.clauses = clauses
        self.grounds = grounds

    def __eq__(self, other):
        return isinstance(other, Rule) and self.clauses == other.clauses and self.grounds == other.grounds

    def facts(self):
        """The ascending list of all facts within."""
        found = {fact: True for ground in self.grounds for fact in ground}
        for body, head in self.clauses:
            found[head] = True
            for fact in body:
                found[fact] = True
        return sorted(found)


class Deriver:
    """Tells of a rule what holds of its lots, again and again."""

    def __init__(self, rule):
        self.rule = rule
        # For each fact the clauses that have it in their bodies, for each clause how many unlike ones it has there.
        self.uses = {}
        self.sizes = []
        for at, clause in enumerate(rule.clauses):
            body = {fact: True for fact in clause[0]}
            self.sizes.append(len(body))
            for fact in body:
                self.uses.setdefault(fact, []).append(at)
        self.bare = [at for at, size in enumerate(self.sizes) if size == 0]

    def derived(self, lot):
        """The dict from what holds of a lot to where it comes from, and its round; none stands ahead of its reasons."""
        found = {}
        waiting = [(fact, ("ground", at), 0) for at in lot for fact in self.rule.grounds[at]]
        waiting.extend([(self.rule.clauses[at][1], ("clause", at), 1) for at in self.bare])
        lacking = list(self.sizes)
        # As rounds never fall along the way, the first way to come to a fact is one of its round.
        while waiting:
            behind = []
            for fact, origin, turn in waiting:
                if fact in found:
                    continue
                found[fact] = (origin, turn)
                for at in self.uses.get(fact, []):
                    lacking[at] -= 1
                    if lacking[at] == 0:
                        behind.append((self.rule.clauses[at][1], ("clause", at), turn + 1))
            waiting = behind
        return found


def check_lot(rule, lot):
    """Raises NoLot for what is no lot of grounds of a rule."""
    if not isinstance(lot, tuple) or not all([is_below(len(rule.grounds), at) for at in lot]) or not ascends(lot):
        raise NoLot()


def check_asked(rule, lot, fact):
    """Raises what is wrong with a lot and a fact that are asked."""
    check_lot(rule, lot)
    if not is_fact(fact):
        raise NoFact()


def held(rule, lot):
    """The ascending list of the facts that hold of a lot."""
    check_lot(rule, lot)
    return sorted(Deriver(rule).derived(lot))


def reasons(rule, lot, fact):
    """Reasons for a fact, each of which is needed, or None if it does not hold."""
    check_asked(rule, lot, fact)
    found = Deriver(rule).derived(lot)
    if fact not in found:
        return None
    wanted = {}
    waiting = [fact]
    while waiting:
        other = waiting.pop()
        if other not in wanted:
            word, at = found[other][0]
            wanted[other] = (word, at)
            waiting.extend(rule.clauses[at][0] if word == "clause" else ())
    return tuple([(other, wanted[other]) for other in found if other in wanted])


def is_reasons(rule, lot, fact, thing):
    """Whether a thing is reasons for a fact."""
    check_asked(rule, lot, fact)
    if not isinstance(thing, tuple) or thing == ():
        return False
    grounds = {at: {other: True for other in rule.grounds[at]} for at in lot}
    ahead = {}
    for pair in thing:
        if not isinstance(pair, tuple) or len(pair) != 2 or not is_fact(pair[0]) or pair[0] in ahead:
            return False
        if not is_reason(rule, grounds, ahead, pair[0], pair[1]):
            return False
        ahead[pair[0]] = True
    return thing[-1][0] == fact


def is_reason(rule, grounds, ahead, fact, thing):
    """Whether a thing tells where a fact comes from, of grounds or of facts ahead."""
    if not isinstance(thing, tuple) or len(thing) != 2 or not isinstance(thing[0], str):
        return False
    word, at = thing
    if word == "ground":
        return is_below(len(rule.grounds), at) and at in grounds and fact in grounds[at]
    if word != "clause" or not is_below(len(rule.clauses), at):
        return False
    body, head = rule.clauses[at]
    return head == fact and all([other in ahead for other in body])


def closed(rule, lot, fact):
    """The closed collection of what holds of a lot, or None if a fact is among it."""
    check_asked(rule, lot, fact)
    found = held(rule, lot)
    return None if fact in found else tuple(found)


def is_closed(rule, lot, fact, thing):
    """Whether a thing is a closed collection without a fact."""
    check_asked(rule, lot, fact)
    if not isinstance(thing, tuple) or not all([is_fact(other) for other in thing]) or not ascends(thing):
        return False
    have = {other: True for other in thing}
    if fact in have or not all([other in have for at in lot for other in rule.grounds[at]]):
        return False
    return all([head in have or not all([other in have for other in body]) for body, head in rule.clauses])


def rounds(rule, lot, fact):
    """The round of a fact, or None if it does not hold."""
    check_asked(rule, lot, fact)
    found = Deriver(rule).derived(lot)
    return found[fact][1] if fact in found else None


def both_lots(rule, fact):
    """The least lots of grounds of which a fact holds, and those without which it does not."""
    if not is_fact(fact):
        raise NoFact()
    if len(rule.grounds) > MOST_ASKED:
        raise TooMany(MOST_ASKED)
    deriver = Deriver(rule)
    return least_lots(len(rule.grounds), lambda lot: fact in deriver.derived(lot))


def enough_of(rule, fact):
    """The list of all least lots of which a fact holds."""
    return both_lots(rule, fact)[0]


def bars_of(rule, fact):
    """The list of all least lots without which, of all other grounds, a fact does not hold."""
    return both_lots(rule, fact)[1]


def needed(rule, lot, fact):
    """The ascending tuple of the clauses without each of which alone a fact does not hold."""
    check_asked(rule, lot, fact)
    found = Deriver(rule).derived(lot)
    if fact not in found:
        return ()
    # A fact needs a clause if each way to it is by this clause, or by a fact that needs it; a bit stands for each.
    needs = {other: 0 if found[other][0][0] == "ground" else -1 for other in found}
    clauses = used_clauses(rule, found)
    changed = True
    while changed:
        changed = False
        for at in clauses:
            body, head = rule.clauses[at]
            bits = 1 << at
            for other in body:
                bits = bits | needs[other]
            if needs[head] & bits != needs[head]:
                needs[head] = needs[head] & bits
                changed = True
    return tuple([at for at in range(len(rule.clauses)) if needs[fact] >> at & 1 == 1])


def used_clauses(rule, found):
    """The clauses whose bodies hold, in the order in which that is found."""
    places = {fact: place for place, fact in enumerate(found)}
    used = []
    for at, clause in enumerate(rule.clauses):
        if all([fact in places for fact in clause[0]]):
            used.append((max([places[fact] for fact in clause[0]], default=-1), at))
    return [at for place, at in sorted(used)]
