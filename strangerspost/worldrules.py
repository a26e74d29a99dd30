"""The rule of a world: what the stranger knows of all that members hold."""

from strangerspost.books import is_below
from strangerspost.errors import NoEpoch, NoFact, NoName, NoTheft, TooMany
from strangerspost.leading import Leading
from strangerspost.rules import Rule, bars_of, enough_of, held, is_fact

MOST_THEFTS = 15


def names(world):
    """The ascending list of all names."""
    return sorted(world.ledger.terms)


def term_of(world, name):
    """The number of the term of a name."""
    if not is_fact(name) or name not in world.ledger.terms:
        raise NoFact()
    return world.ledger.terms[name]


def rule_of(world):
    """The rule of which names hold of which others; ground 0 has the open ones, the next ones the thefts'."""
    told, terms = world.ledger.names, world.ledger.terms
    opened = world.openly.known_among(list(told))
    openly = [name for name in names(world) if terms[name] in opened]
    secrets = [terms[name] for name in names(world) if terms[name] not in opened]
    leading = Leading(world.book, world.openly, secrets)
    clauses = []
    for term in secrets:
        # The secret ones stand in the order of their names, so what is told of a lot is ascending.
        clauses.extend([(tuple([told[part] for part in lot]), told[term]) for lot in leading.lots_to(term)])
    grounds = [tuple(openly)]
    for store in world.ledger.thefts:
        grounds.append(tuple(sorted([told[term] for term in store if term in told])))
    # It may be greater than a Rule that is asked for may be.
    rule = Rule((), ())
    rule.clauses = tuple(sorted(clauses))
    rule.grounds = tuple(grounds)
    return rule


def known(world):
    """The ascending list of the names whose terms the stranger knows."""
    found = world.knower.known_among(list(world.ledger.names))
    return [name for name in names(world) if world.ledger.terms[name] in found]


def theft_rule(world, name):
    """The rule of a world with the thefts alone as grounds, the open names holding of none."""
    term_of(world, name)
    if len(world.ledger.thefts) > MOST_THEFTS:
        raise TooMany(MOST_THEFTS)
    rule = rule_of(world)
    rule.clauses = rule.clauses + tuple([((), fact) for fact in rule.grounds[0]])
    rule.grounds = rule.grounds[1:]
    return rule


def hangs(world, name):
    """The list of all least lots of thefts of which, with what is open, a name holds."""
    return enough_of(theft_rule(world, name), name)


def would_bar(world, name):
    """The list of all least lots of thefts without which a name does not hold."""
    return bars_of(theft_rule(world, name), name)


def reach(world, theft):
    """The ascending list of the epochs of which a theft alone tells some turn, key, or the letters key."""
    if not is_below(len(world.ledger.thefts), theft):
        raise NoTheft()
    facts = {fact: True for fact in held(rule_of(world), (theft + 1,))}
    told = world.ledger.names
    found = []
    for epoch, turnings in enumerate(world.ledger.turnings):
        if any([told[term] in facts for term in turnings if term in told]):
            found.append(epoch)
    return found


def seen_words(world):
    """The list of the messages whose fresh words the stranger knows."""
    messages = world.ledger.messages
    return [at for at, words in enumerate(messages) if words is not None and world.knower.knows(words)]


def can_lead(world, name, e):
    """Whether the stranger knows the key of a member's marks, and chain and seal of an epoch."""
    if not isinstance(name, str) or name not in world.held:
        raise NoName()
    if not is_below(len(world.ledger.sealed), e):
        raise NoEpoch()
    return all([world.knower.knows(term) for term in (world.held[name].marks,) + world.ledger.sealed[e]])
