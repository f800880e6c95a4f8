"""Texts of entries, houses and rows of a log."""

OUTSIDE = "-"


def entry_text(entry):
    """The text of an entry."""
    return " ".join(OUTSIDE if part == "" else str(part) for part in entry)


def house_text(house):
    """The text of a house."""
    places, goods, entries = house
    lines = [" ".join(("places",) + places), " ".join(("goods",) + goods)]
    return "\n".join(lines + [entry_text(entry) for entry in entries])


def row_text(row):
    """The text of a row of a log."""
    if row[0] == "enter":
        return "enter " + entry_text(row[1])
    return " ".join(str(part) for part in row)
