"""Houses whose places, goods and entries are called otherwise."""

from shelfcounts.entries import good_of, places_of, with_good, with_name, with_places
from shelfcounts.errors import Clash
from shelfcounts.houses import in_order
from shelfcounts.names import is_name


def called(house, places, goods, names):
    """The house with places, goods and entries called otherwise by these dicts."""
    own_places, own_goods, entries = house
    for otherwise in (places, goods, names):
        refuse_what_is_no_name(otherwise)
    new_places = all_otherwise(own_places, places)
    new_goods = all_otherwise(own_goods, goods)
    all_otherwise([entry[1] for entry in entries], names)
    renamed = [entry_otherwise(entry, places, goods, names) for entry in entries]
    return (tuple(sorted(new_places)), tuple(sorted(new_goods)), in_order(renamed))


def refuse_what_is_no_name(otherwise):
    """Refuses a dict with a key or a value that is no name."""
    if not all(is_name(old) and is_name(new) for old, new in otherwise.items()):
        raise Clash("not all are names")


def all_otherwise(old, otherwise):
    """These unlike names, called otherwise; refused where two of them would become one."""
    new = [otherwise.get(name, name) for name in old]
    if len(set(new)) != len(new):
        raise Clash("two names would become one")
    return new


def entry_otherwise(entry, places, goods, names):
    """The entry called otherwise, with its places and its good."""
    told = with_name(entry, names.get(entry[1], entry[1]))
    told = with_places(told, tuple(places.get(place, place) for place in places_of(entry)))
    good = good_of(entry)
    return told if good is None else with_good(told, goods.get(good, good))
