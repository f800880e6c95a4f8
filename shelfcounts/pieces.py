"""Pieces of tracks between counts and looks, and the ties between them."""

from shelfcounts.entries import change_at, good_of, places_of
from shelfcounts.tracks import along_tracks


def pieces(house, good):
    """The rows (piece, opened, closed, inside, balance) of all pieces, rising."""
    told = [entry for entry in along_tracks(house) if good_of(entry) == good]
    rows = []
    for track in house[0]:
        rows.extend(pieces_of_track(track, [entry for entry in told if track in places_of(entry)]))
    return rows


def pieces_of_track(track, told):
    """The rows of the pieces of one track, of the entries of the good that touch it."""
    rows = []
    opens = None
    inside = []
    for entry in told:
        if entry[0] in ("count", "look"):
            rows.append(piece_row((track, len(rows)), opens, entry, inside))
            opens = entry
            inside = []
        else:
            inside.append(entry)
    rows.append(piece_row((track, len(rows)), opens, None, inside))
    return rows


def piece_row(piece, opens, closes, inside):
    """The row of a piece, of the entries that open and close it, or None, and those inside."""
    moved = sum(change_at(entry, piece[0]) for entry in inside)
    balance = counted(closes) - counted(opens) - moved
    return (piece, name_of(opens), name_of(closes), tuple(entry[1] for entry in inside), balance)


def counted(entry):
    """What a count tells; 0 of a look, and where there is none."""
    if entry is None or entry[0] == "look":
        return 0
    return entry[5]


def name_of(entry):
    """The name of an entry, None where there is none."""
    if entry is None:
        return None
    return entry[1]


def balances_of(house, good):
    """A dict from all pieces of the good, rising, to their balances."""
    return {row[0]: row[4] for row in pieces(house, good)}


def ties(house, good):
    """The rows (tie, out, into) of all ties of the good, rising; None is the outside."""
    rows = pieces(house, good)
    told = [entry for entry in along_tracks(house) if good_of(entry) == good]
    found = end_ties(rows) + look_ties(rows, told) + some_ties(rows, told)
    return sorted(found, key=lambda row: row[0])


def end_ties(rows):
    """The ties begin and now of all tracks."""
    found = []
    for piece, opened, closed, inside, balance in rows:
        if opened is None:
            found.append((("begin", piece[0]), None, piece))
        if closed is None:
            found.append((("now", piece[0]), piece, None))
    return found


def look_ties(rows, told):
    """The ties of looks."""
    closing = {row[2]: row[0] for row in rows}
    opening = {row[1]: row[0] for row in rows}
    return [(("look", entry[1]), closing[entry[1]], opening[entry[1]]) for entry in told if entry[0] == "look"]


def some_ties(rows, told):
    """The ties of somes."""
    # A some between two tracks is inside a piece of each, so its name alone does not tell the piece.
    holding = {(row[0][0], name): row[0] for row in rows for name in row[3]}
    found = []
    for entry in told:
        if entry[0] == "some":
            out = holding[(entry[4], entry[1])]
            into = None if entry[5] == "" else holding[(entry[5], entry[1])]
            found.append((("some", entry[1]), out, into))
    return found
