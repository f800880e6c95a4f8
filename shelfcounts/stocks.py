"""Stocks: what stood at a place, where it is known."""

from shelfcounts.houses import in_order
from shelfcounts.known import told
from shelfcounts.names import LETTERS
from shelfcounts.tracks import track_at


def stock_at(house, good, place, moment):
    """The stock at the place at the moment, None where it isn't known."""
    places, goods, entries = house
    name = free_name([entry[1] for entry in entries])
    # Not by with_entry: a house of thirty entries is asked, too.
    asked = (places, goods, in_order(entries + (("look", name, moment, good, place),)))
    return known_amount(told(asked, good, ("look", name)))


def free_name(taken):
    """A name that is none of those taken: of two letters there are more than a house has entries."""
    return min(one + other for one in LETTERS for other in LETTERS if one + other not in taken)


def stock_now(house, good, place):
    """The stock at the place behind all entries, None where it isn't known."""
    track = track_at(house, place, len(house[2]))
    return known_amount(told(house, good, ("now", track)))


def known_amount(paper):
    """The amount that is told of a tie, None where it is free."""
    return paper[1] if paper[0] == "known" else None
