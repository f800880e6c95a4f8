"""Entries: what was written down, as plain tuples (word, name, moment, ...)."""

from shelfcounts.names import is_name, is_whole

MOMENTS_IN_A_DAY = 100

# The sorts of the parts behind the word; an end is a name, or the outside.
FORMS = {
    "come": ("name", "moment", "name", "name", "many", "price"),
    "go": ("name", "moment", "name", "name", "many"),
    "move": ("name", "moment", "name", "name", "name", "many"),
    "some": ("name", "moment", "name", "name", "end"),
    "swap": ("name", "moment", "name", "name"),
    "count": ("name", "moment", "name", "name", "counted", "name"),
    "look": ("name", "moment", "name", "name"),
}

BOUNDS = {
    "moment": (0, 9999),
    "many": (1, 10 ** 9),
    "counted": (0, 10 ** 9),
    "price": (0, 10 ** 9),
}

# Within one moment: counts and looks tell what stands behind all that was moved.
RANKS = {"swap": 0, "come": 1, "go": 1, "move": 1, "some": 1, "count": 2, "look": 2}


def is_entry(thing):
    """Whether it is an entry, of whatever thing."""
    if not isinstance(thing, tuple) or len(thing) == 0:
        return False
    # A list or a dict cannot be looked for among the keys of a dict.
    if not isinstance(thing[0], str) or thing[0] not in FORMS:
        return False
    sorts = FORMS[thing[0]]
    if len(thing) != len(sorts) + 1:
        return False
    if not all(fits(part, sort) for part, sort in zip(thing[1:], sorts)):
        return False
    places = places_of(thing)
    return len(set(places)) == len(places)


def fits(part, sort):
    """Whether a part of an entry, whatever thing, is of the sort."""
    if sort == "name":
        return is_name(part)
    if sort == "end":
        return part == "" or is_name(part)
    low, high = BOUNDS[sort]
    return is_whole(part) and low <= part <= high


def is_entry_of(thing, places, goods):
    """Whether it is an entry of these places and goods, of whatever thing."""
    if not is_entry(thing):
        return False
    good = good_of(thing)
    if good is not None and good not in goods:
        return False
    return all(place in places for place in places_of(thing))


def is_moment(thing):
    """Whether it is a moment, of whatever thing."""
    return fits(thing, "moment")


def day_of(moment):
    """The day of a moment."""
    return moment // MOMENTS_IN_A_DAY


def good_of(entry):
    """The good of an entry, None of a swap."""
    if entry[0] == "swap":
        return None
    return entry[3]


def places_of(entry):
    """The places that an entry names, in its order."""
    word = entry[0]
    if word == "swap":
        return entry[3:5]
    if word == "move" or (word == "some" and entry[5] != ""):
        return entry[4:6]
    return entry[4:5]


def order_of(entry):
    """What tells the order of entries, by comparing."""
    return (entry[2], RANKS[entry[0]], entry[1])


def goes_ahead(entry, other):
    """Whether an entry stands ahead of another one, of another name."""
    return order_of(entry) < order_of(other)


def change_at(entry, place):
    """What the entry tells to have been added at the place, below nought where it was taken."""
    word = entry[0]
    if word == "come" and place == entry[4]:
        return entry[5]
    if word == "go" and place == entry[4]:
        return -entry[5]
    if word == "move" and place == entry[4]:
        return -entry[6]
    if word == "move" and place == entry[5]:
        return entry[6]
    return 0


def with_moment(entry, moment):
    """The entry with another moment."""
    return entry[:2] + (moment,) + entry[3:]


def with_name(entry, name):
    """The entry with another name."""
    return entry[:1] + (name,) + entry[2:]


def with_good(entry, good):
    """The entry, no swap, with another good."""
    return entry[:3] + (good,) + entry[4:]


def with_places(entry, places):
    """The entry with other places, as many as it names, in its order."""
    start = 3 if entry[0] == "swap" else 4
    return entry[:start] + places + entry[start + len(places):]
