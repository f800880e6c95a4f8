"""Tracks: what stood at a place at first, wherever swaps bring it."""

from shelfcounts.entries import places_of, with_places


def place_of(house, track, at):
    """The place where the track is behind the first so many entries."""
    there = tracks_behind(house, at)
    return {there[place]: place for place in there}[track]


def track_at(house, place, at):
    """The track that is at the place behind the first so many entries."""
    return tracks_behind(house, at)[place]


def touched(house, number):
    """The tracks, rising, that the entry of this number touches."""
    return tuple(sorted(places_of(along_tracks(house)[number])))


def tracks_behind(house, at):
    """A dict from places to the tracks there behind the first so many entries."""
    there = tracks_at_first(house)
    for entry in house[2][:at]:
        there = exchanged(there, entry)
    return there


def tracks_at_first(house):
    """A dict from places to the tracks there ahead of all entries."""
    return {place: place for place in house[0]}


def exchanged(there, entry):
    """The tracks at the places behind an entry, of those ahead of it."""
    if entry[0] != "swap":
        return there
    one, other = places_of(entry)
    return {**there, one: there[other], other: there[one]}


def along_tracks(house):
    """All entries in order, each telling the tracks that it touches in the place of its places."""
    there = tracks_at_first(house)
    told = []
    for entry in house[2]:
        told.append(with_places(entry, tuple(there[place] for place in places_of(entry))))
        there = exchanged(there, entry)
    return told
