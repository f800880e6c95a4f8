"""Clashes: goods whose counts and moves do not fit together, and what shows it."""

from shelfcounts.heaps import heaps
from shelfcounts.pieces import balances_of, ties
from shelfcounts.sides import is_side, over_the_edge, sum_of


def clashes(house, good):
    """Whether the good clashes."""
    return clash_of(house, good) is not None


def clash_of(house, good):
    """The pieces of the first heap that clashes, None where there is none."""
    for members, total, shut in heaps(house, good):
        if shut and total != 0:
            return list(members)
    return None


def shows_clash(house, good, thing):
    """Whether it is a list of pieces that shows that the good clashes, of whatever thing."""
    balances = balances_of(house, good)
    if not is_side(thing, balances):
        return False
    # The sum of no pieces is 0, so a list of none shows nothing.
    return over_the_edge(ties(house, good), thing) == [] and sum_of(thing, balances) != 0
