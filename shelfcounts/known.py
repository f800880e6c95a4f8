"""What is known of ties, by sides, and what is free, by rings."""

from shelfcounts.clashes import clashes
from shelfcounts.errors import NoFilling, NoTie
from shelfcounts.names import is_whole
from shelfcounts.pieces import balances_of, ties
from shelfcounts.rings import is_ring
from shelfcounts.sides import is_side, over_the_edge, sum_of
from shelfcounts.ways import ring_through, row_of_tie, side_beside


def shows_known(house, good, tie, amount, side):
    """Whether the side shows this amount of the tie, of whatever things."""
    led = ties(house, good)
    balances = balances_of(house, good)
    if not is_whole(amount) or not is_side(side, balances) or over_the_edge(led, side) != [tie]:
        return False
    return amount == shown_amount(row_of_tie(led, tie), side, balances)


def shown_amount(row, side, balances):
    """The amount that the side shows of the tie of this row."""
    total = sum_of(side, balances)
    return total if row[2] in side else -total


def shows_free(house, good, tie, ring):
    """Whether the ring shows that the tie is free, of whatever things."""
    return is_ring(house, good, ring) and any(step[0] == tie for step in ring)


def told(house, good, tie):
    """What is known of the tie, or that it is free, with the paper that shows it."""
    led = ties(house, good)
    row = row_of_tie(led, tie)
    if row is None:
        raise NoTie("no tie of the good")
    if clashes(house, good):
        raise NoFilling("the good clashes")
    ring = ring_through(led, row)
    if ring is not None:
        return ("free", ring)
    side = side_beside(led, row)
    return ("known", shown_amount(row, side, balances_of(house, good)), side)
