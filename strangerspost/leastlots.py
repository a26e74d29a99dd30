"""Least lots of numbers of which something holds, and least lots without which it does not."""


def ordered_lots(lots):
    """Lots as ascending tuples, the shortest first, then as Python orders, from dicts of True."""
    told = [tuple(sorted(lot)) for lot in lots]
    return sorted(told, key=lambda lot: (len(lot), lot))


def least_lots(count, holds):
    """The lists of all least lots of numbers below a count of which it holds, and without which it does not.

    What is asked of a list of numbers, by holds, must hold of each greater one, too. Each lot of the one list has a
    number in common with each of the other one: so the lots that are found tell what may be such a bar.
    """
    enough = []
    bars = []
    waiting = [{}]
    while waiting:
        bar = waiting[-1]
        others = [at for at in range(count) if at not in bar]
        if holds(others):
            lot = shrunk(others, holds)
            enough.append(lot)
            waiting = crossed(bars, waiting, lot)
        else:
            bars.append(waiting.pop())
    return ordered_lots(enough), ordered_lots(bars)


def shrunk(lot, holds):
    """A least part of a lot of which it holds: a dict of True."""
    kept = list(lot)
    for at in lot:
        others = [other for other in kept if other != at]
        if holds(others):
            kept = others
    return {at: True for at in kept}


def crossed(bars, waiting, lot):
    """The lots that wait to be bars, each least so, when they must have a number in common with one more lot."""
    right = [one for one in waiting if any([part in lot for part in one])]
    wrong = [one for one in waiting if not any([part in lot for part in one])]
    lesser = bars + right
    found = list(right)
    for bar in wrong:
        for at in lot:
            wider = {**bar, at: True}
            if not any([all([part in wider for part in one]) for one in lesser]):
                found.append(wider)
    return found
