"""Hands: those who counted, and those whose counts alone make goods clash."""

from shelfcounts.settling import fits_whole


def hands_of(house):
    """The hands of all counts, rising."""
    return sorted({entry[6] for entry in house[2] if entry[0] == "count"})


def without_hand(house, hand):
    """The house without the counts of this hand."""
    places, goods, entries = house
    return (places, goods, tuple(entry for entry in entries if entry[0] != "count" or entry[6] != hand))


def clearing_hands(house):
    """The hands, rising, without all of whose counts no good clashes; none where none clashes with them."""
    if fits_whole(house):
        return []
    return [hand for hand in hands_of(house) if fits_whole(without_hand(house, hand))]
