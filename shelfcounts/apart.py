"""Houses that have the same pieces and ties as another one."""

from shelfcounts.entries import good_of, is_moment, with_moment
from shelfcounts.errors import NoHouse
from shelfcounts.tracks import along_tracks


def only_good(house, good):
    """The house with this good, its entries and the swaps alone."""
    places, goods, entries = house
    return (places, (good,), tuple(entry for entry in entries if good_of(entry) in (None, good)))


def unswapped(house):
    """The house without swaps, each entry telling tracks in the place of its places."""
    places, goods, entries = house
    # The order of entries does not ask for places, so they stay in it.
    return (places, goods, tuple(entry for entry in along_tracks(house) if entry[0] != "swap"))


def made_later(house, many):
    """The house with all moments later by so many."""
    places, goods, entries = house
    if not all(is_moment(entry[2] + many) for entry in entries):
        raise NoHouse("a moment would be too late")
    return (places, goods, tuple(with_moment(entry, entry[2] + many) for entry in entries))
