"""Sides: rising lists of pieces, and the ties that lead over their edge."""

from shelfcounts.names import are_rising, is_whole


def is_side(thing, balances):
    """Whether it is a rising list of pieces, of whatever thing; the keys of balances are all pieces."""
    if not isinstance(thing, list) or not all(is_piece(part, balances) for part in thing):
        return False
    return are_rising(thing)


def is_piece(thing, balances):
    """Whether it is one of these pieces, of whatever thing."""
    if not isinstance(thing, tuple) or len(thing) != 2:
        return False
    # A truth would be found among the keys as the number that Python takes it for.
    return isinstance(thing[0], str) and is_whole(thing[1]) and thing in balances


def over_the_edge(led, side):
    """The ties that have just one end in the side; the outside is in none."""
    return [tie for tie, out, into in led if (out in side) != (into in side)]


def sum_of(side, balances):
    """What the balances of the side's pieces come to."""
    return sum(balances[piece] for piece in side)
