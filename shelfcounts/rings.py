"""Rings: lists of steps (tie, forth) that end where they begin."""

from shelfcounts.pieces import ties
from shelfcounts.ways import row_of_tie


def is_ring(house, good, thing):
    """Whether it is a ring, of whatever thing."""
    if not isinstance(thing, list) or len(thing) < 2:
        return False
    led = ties(house, good)
    walked = [walked_row(led, step) for step in thing]
    if None in walked or len({row[0] for row in walked}) != len(walked):
        return False
    # The number -1 is that of the last one: it ends where the first one begins.
    return all(walked[at - 1][2] == walked[at][1] for at in range(len(walked)))


def walked_row(led, step):
    """The tuple (tie, begin, end) of a step, whatever it is; None where it is none along these ties."""
    if not isinstance(step, tuple) or len(step) != 2 or not isinstance(step[1], bool):
        return None
    row = row_of_tie(led, step[0])
    if row is None or step[1]:
        return row
    return (row[0], row[2], row[1])


def pushed(house, good, amounts, ring, many):
    """The filling that comes of a filling along a ring."""
    more = {tie: many if forth else -many for tie, forth in ring}
    return [amount + more.get(row[0], 0) for amount, row in zip(amounts, ties(house, good))]
