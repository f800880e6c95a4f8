"""Lots of goods that came, what goes took of them, and what both are worth."""

from shelfcounts.entries import good_of
from shelfcounts.errors import NoGo
from shelfcounts.houses import entry_called


def lots_behind(house, good, at):
    """The lots (name, left, price) of the good behind the first so many entries, in their order."""
    lots = []
    for entry in house[2][:at]:
        if good_of(entry) == good:
            lots = lots_with(lots, entry)
    return lots


def lots_with(lots, entry):
    """The lots behind an entry of their good, of those ahead of it."""
    if entry[0] == "come":
        return lots + [(entry[1], entry[5], entry[6])]
    if entry[0] == "go":
        parts, bare = taken_from(lots, entry[5])
        took = {name: many for name, many in parts}
        rest = [(name, left - took.get(name, 0), price) for name, left, price in lots]
        return [lot for lot in rest if lot[1] > 0]
    return lots


def taken_from(lots, many):
    """What is taken where so many are wanted, the tuple (parts, bare)."""
    parts = []
    bare = many
    for name, left, price in lots:
        part = min(left, bare)
        if part > 0:
            parts.append((name, part))
            bare -= part
    return (parts, bare)


def taken_by(house, name):
    """What the go of this name took, the tuple (parts, bare), whatever is handed in as name."""
    go = entry_called(house, name)
    if go[0] != "go":
        raise NoGo("the entry is no go")
    return taken_from(lots_behind(house, good_of(go), house[2].index(go)), go[5])


def cost_of(house, name):
    """The cost of what the go of this name took."""
    parts, bare = taken_by(house, name)
    return sum(many * entry_called(house, lot)[6] for lot, many in parts)


def worth_behind(house, good, at):
    """The worth of the lots of the good behind the first so many entries."""
    return sum(left * price for name, left, price in lots_behind(house, good, at))
