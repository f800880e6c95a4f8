"""Books: what stands at a place by the last count and what was moved behind it."""

from shelfcounts.entries import change_at, good_of, places_of
from shelfcounts.houses import many_up_to
from shelfcounts.tracks import along_tracks, track_at


def book_behind(house, good, place, at):
    """The book of the good at the place behind the first so many entries, or None."""
    name, book = last_counted(along_tracks(house)[:at], good, track_at(house, place, at))
    return book


def book_at(house, good, place, moment):
    """The book of the good at the place at the moment, or None."""
    return book_behind(house, good, place, many_up_to(house, moment))


def last_counted(told, good, track):
    """The last count of the good on the track, and the book behind these entries; both None where none is told."""
    name = None
    book = None
    for entry in told:
        if good_of(entry) == good and track in places_of(entry):
            if entry[0] == "count":
                name = entry[1]
                book = entry[5]
            elif entry[0] == "some":
                name = None
                book = None
            elif book is not None:
                book += change_at(entry, track)
    return name, book


def differences(house):
    """The rows (good, ahead, name, difference) of counts behind another one, rising."""
    told = along_tracks(house)
    found = []
    for at, entry in enumerate(told):
        if entry[0] == "count":
            ahead, book = last_counted(told[:at], entry[3], entry[4])
            if book is not None:
                found.append((entry[3], ahead, entry[1], entry[5] - book))
    return sorted(found)


def below(house):
    """The rows (good, name, place, book) of goes and moves that leave a book below nought, rising."""
    told = along_tracks(house)
    found = []
    for at, entry in enumerate(house[2]):
        if entry[0] in ("go", "move"):
            name, book = last_counted(told[:at + 1], entry[3], told[at][4])
            if book is not None and book < 0:
                found.append((entry[3], entry[1], entry[4], book))
    return sorted(found)
