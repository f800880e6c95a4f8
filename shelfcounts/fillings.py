"""Fillings: amounts of all ties of a good that fit its pieces' balances."""

from shelfcounts.clashes import clashes
from shelfcounts.errors import NoFilling
from shelfcounts.heaps import heaps
from shelfcounts.names import is_whole
from shelfcounts.pieces import balances_of, ties
from shelfcounts.ways import ways_from


def is_filling(house, good, thing):
    """Whether it is a filling, of whatever thing."""
    led = ties(house, good)
    if not isinstance(thing, list) or len(thing) != len(led) or not all(is_whole(part) for part in thing):
        return False
    amounts = {row[0]: amount for row, amount in zip(led, thing)}
    balances = balances_of(house, good)
    return all(lacking(led, amounts, balances, piece) == 0 for piece in balances)


def lacking(led, amounts, balances, piece):
    """What more would have to be led into the piece for its balance."""
    led_in = sum(amounts[tie] for tie, out, into in led if into == piece)
    led_out = sum(amounts[tie] for tie, out, into in led if out == piece)
    return balances[piece] - led_in + led_out


def filling(house, good):
    """One filling."""
    if clashes(house, good):
        raise NoFilling("the good clashes")
    led = ties(house, good)
    balances = balances_of(house, good)
    amounts = {row[0]: 0 for row in led}
    for start in starts(house, good):
        ways = ways_from(led, start)
        # What lies farther off is filled first, so that the last tie on the way to a piece makes up for all behind it.
        for spot in reversed(list(ways)):
            if spot != start:
                tie, forth = ways[spot][-1]
                lacks = lacking(led, amounts, balances, spot)
                amounts[tie] = lacks if forth else -lacks
    return [amounts[row[0]] for row in led]


def starts(house, good):
    """The outside, and a piece of each heap that does not hang together with it."""
    return [None] + [members[0] for members, total, shut in heaps(house, good) if shut]
