"""The fewest ties whose amounts, once known, make all wanted ones known."""

from shelfcounts.known import shows_free
from shelfcounts.pieces import balances_of, ties
from shelfcounts.sides import is_side, over_the_edge
from shelfcounts.ways import ring_through, row_of_tie, side_beside, without_ties


def fewest(house, good, wanted):
    """The lists taken, rings and sides of some wanted ties."""
    led = ties(house, good)
    taken = []
    rings = []
    for tie in sorted(wanted):
        ring = ring_through(without_ties(led, taken), row_of_tie(led, tie))
        if ring is not None:
            taken.append(tie)
            rings.append(ring)
    rest = without_ties(led, taken)
    sides = [(tie, side_beside(rest, row_of_tie(led, tie))) for tie in others_wanted(wanted, taken)]
    return (taken, rings, sides)


def others_wanted(wanted, taken):
    """The wanted ties that aren't taken, rising."""
    return [tie for tie in sorted(wanted) if tie not in taken]


def shows_fewest(house, good, wanted, thing):
    """Whether it is a tuple (taken, rings, sides) that shows this, of whatever thing."""
    if not isinstance(thing, tuple) or len(thing) != 3:
        return False
    taken, rings, sides = thing
    if not are_unlike_ones(taken, wanted) or not rings_show(house, good, taken, rings):
        return False
    return sides_show(house, good, taken, others_wanted(wanted, taken), sides)


def are_unlike_ones(taken, wanted):
    """Whether it is a list of unlike wanted ties, of whatever thing."""
    if not isinstance(taken, list) or not all(tie in wanted for tie in taken):
        return False
    return len(set(taken)) == len(taken)


def rings_show(house, good, taken, rings):
    """Whether the rings, whatever they are, show that each taken one is free where those ahead of it are known."""
    if not isinstance(rings, list) or len(rings) != len(taken):
        return False
    for at, ring in enumerate(rings):
        if not shows_free(house, good, taken[at], ring) or any(step[0] in taken[:at] for step in ring):
            return False
    return True


def sides_show(house, good, taken, others, sides):
    """Whether the sides, whatever they are, show that the other ones are known where the taken ones are."""
    if not isinstance(sides, list) or len(sides) != len(others):
        return False
    rest = without_ties(ties(house, good), taken)
    balances = balances_of(house, good)
    return all(side_shows(rest, balances, tie, row) for tie, row in zip(others, sides))


def side_shows(rest, balances, tie, row):
    """Whether the row, whatever it is, is the tie and a side over whose edge it alone of the rest of ties leads."""
    if not isinstance(row, tuple) or len(row) != 2 or row[0] != tie:
        return False
    return is_side(row[1], balances) and over_the_edge(rest, row[1]) == [tie]
