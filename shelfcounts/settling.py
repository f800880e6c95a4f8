"""Settling: lots of entries without which no good clashes."""

from shelfcounts.clashes import clashes
from shelfcounts.houses import entry_called, with_turned, without_entry
from shelfcounts.trees import tree_for


def fits_whole(house):
    """Whether no good of the house clashes."""
    return not any(clashes(house, good) for good in house[1])


def settles(house, lot):
    """Whether without the entries of these names no good clashes."""
    places, goods, entries = house
    return fits_whole((places, goods, tuple(entry for entry in entries if entry[1] not in lot)))


def least_lot(house):
    """The first of the least lots that settle the house, or that more than two are wanted, with what shows it."""
    for many in range(3):
        for lot in lots_of(house, many):
            if settles(house, lot):
                return ("settles", lot, None if many == 0 else tree_for(house, many - 1))
    return ("more", tree_for(house, 2))


def lots_of(house, many):
    """All rising tuples of so many names of entries, rising."""
    lots = [()]
    for step in range(many):
        lots = [lot + (name,) for lot in lots for name in names_of(house) if lot == () or lot[-1] < name]
    return lots


def names_of(house):
    """The names of all entries, rising."""
    return sorted(entry[1] for entry in house[2])


def causes(house):
    """What settles a house in which a good clashes: one entry taken back, one move turned."""
    if fits_whole(house):
        return []
    moves = [name for name in names_of(house) if entry_called(house, name)[0] == "move"]
    back = [("back", name) for name in names_of(house) if fits_whole(without_entry(house, name))]
    return back + [("turn", name) for name in moves if fits_whole(with_turned(house, name))]
