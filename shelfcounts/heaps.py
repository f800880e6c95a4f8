"""Heaps of pieces that hang together, and the rows of those that are shut."""

from shelfcounts.entries import good_of, places_of
from shelfcounts.pieces import balances_of, pieces, ties
from shelfcounts.tracks import along_tracks


def heaps(house, good):
    """The rows (pieces, sum, shut) of all heaps of the good, rising by pieces."""
    balances = balances_of(house, good)
    led = ties(house, good)
    firsts = first_pieces(list(balances), led)
    # Each tie has a piece at one end at least.
    ajar = [firsts[into if out is None else out] for tie, out, into in led if out is None or into is None]
    found = []
    for first in balances:
        if firsts[first] == first:
            members = tuple(piece for piece in balances if firsts[piece] == first)
            total = sum(balances[piece] for piece in members)
            found.append((members, total, first not in ajar))
    return found


def first_pieces(members, led):
    """A dict from each piece to the first one of its heap."""
    firsts = {piece: piece for piece in members}
    for tie, out, into in led:
        if out is not None and into is not None:
            firsts = joined(firsts, firsts[out], firsts[into])
    return firsts


def joined(firsts, one, other):
    """The first pieces where the heaps of these two first ones are one heap."""
    low = min(one, other)
    return {piece: low if firsts[piece] in (one, other) else firsts[piece] for piece in firsts}


def shut_rows(house, good):
    """The rows (names, sum) of all shut heaps of the good, rising."""
    told = along_tracks(house)
    rows = {row[0]: row for row in pieces(house, good)}
    found = []
    for members, total, shut in heaps(house, good):
        if shut:
            names = [name for piece in members for name in names_along(told, good, rows[piece])]
            found.append((tuple(sorted(set(names))), total))
    return sorted(found)


def names_along(told, good, row):
    """The names that a shut heap's piece gives its row: a shut heap's pieces are all opened and closed."""
    track = row[0][0]
    names = [entry[1] for entry in told]
    span = told[names.index(row[1]):names.index(row[2]) + 1]
    # From what opens it to what closes it, other counts and looks of the good do not touch the track.
    return [entry[1] for entry in span
            if track in places_of(entry) and good_of(entry) in (None, good) and entry[0] != "look"]
