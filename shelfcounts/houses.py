"""Houses: tuples (places, goods, entries)."""

from shelfcounts.entries import is_entry_of, order_of, with_places
from shelfcounts.errors import NoEntry, NoHouse, NoMove, NoName, TooMany, Twice
from shelfcounts.names import is_name

MOST_PLACES = 6
MOST_GOODS = 3
MOST_ENTRIES = 30


def house_of(places, goods, entries):
    """The house of these places, goods and entries, each in any order and perhaps several times."""
    own_places = rising_names(places, MOST_PLACES)
    own_goods = rising_names(goods, MOST_GOODS)
    return (own_places, own_goods, own_entries(entries, own_places, own_goods))


def rising_names(things, most):
    """The names, rising, each once."""
    if not isinstance(things, (list, tuple)):
        raise NoHouse("neither a list nor a tuple of names")
    if not all(is_name(thing) for thing in things):
        raise NoHouse("not all are names")
    names = tuple(sorted(set(things)))
    if not 1 <= len(names) <= most:
        raise NoHouse("too few names or too many")
    return names


def own_entries(things, places, goods):
    """The entries, in their order, each once."""
    if not isinstance(things, (list, tuple)):
        raise NoHouse("neither a list nor a tuple of entries")
    called = {}
    for thing in things:
        if not is_entry_of(thing, places, goods):
            raise NoHouse("not all are entries of these places and goods")
        if called.setdefault(thing[1], thing) != thing:
            raise NoHouse("unlike entries of one name")
    if len(called) > MOST_ENTRIES:
        raise NoHouse("too many entries")
    return in_order(list(called.values()))


def in_order(entries):
    """The entries as a tuple in their order."""
    return tuple(sorted(entries, key=order_of))


def many_up_to(house, moment):
    """How many entries there are up to this moment, its own, too."""
    return len([entry for entry in house[2] if entry[2] <= moment])


def entry_called(house, name):
    """The entry of this name, whatever is handed in as name."""
    for entry in house[2]:
        if entry[1] == name:
            return entry
    raise NoName("no entry is called so")


def with_entry(house, entry):
    """The house with an entry more."""
    places, goods, entries = house
    if not is_entry_of(entry, places, goods):
        raise NoEntry("no entry of these places and goods")
    if any(other[1] == entry[1] for other in entries):
        raise Twice("an entry of this name is there")
    if len(entries) >= MOST_ENTRIES:
        raise TooMany("there are thirty entries")
    return (places, goods, in_order(entries + (entry,)))


def without_entry(house, name):
    """The house without the entry of this name."""
    places, goods, entries = house
    gone = entry_called(house, name)
    return (places, goods, tuple(entry for entry in entries if entry != gone))


def with_turned(house, name):
    """The house with the move of this name turned."""
    places, goods, entries = house
    move = entry_called(house, name)
    if move[0] != "move":
        raise NoMove("the entry is no move")
    turned = with_places(move, (move[5], move[4]))
    # The order of entries does not ask for places, so the turned one stays where it is.
    return (places, goods, tuple(turned if entry == move else entry for entry in entries))
