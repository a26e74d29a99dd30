"""Words, which members, rooms and facts are called by, and other plain things."""

MOST_LETTERS = 12


def is_word(thing):
    """Whether a thing is a string of 1 to 12 letters a to z."""
    if not isinstance(thing, str) or not 1 <= len(thing) <= MOST_LETTERS:
        return False
    return all(["a" <= sign <= "z" for sign in thing])


def is_number(thing):
    """Whether a thing is an integer from 0 on."""
    return isinstance(thing, int) and not isinstance(thing, bool) and thing >= 0


def ascends(things):
    """Whether things stand in ascending order, none twice."""
    return all([things[at] < things[at + 1] for at in range(len(things) - 1)])
