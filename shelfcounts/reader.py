"""Reads entries, houses and rows of a log as they are written."""

from shelfcounts.entries import FORMS, goes_ahead, is_entry, is_entry_of
from shelfcounts.errors import NoText
from shelfcounts.figures import number_of
from shelfcounts.houses import MOST_ENTRIES, MOST_GOODS, MOST_PLACES
from shelfcounts.names import are_rising, is_name
from shelfcounts.states import MODES, is_day
from shelfcounts.texts import OUTSIDE


def read_entry(text):
    """The entry that is written so."""
    entry = entry_in(text) if isinstance(text, str) else None
    if entry is None:
        raise NoText(0)
    return entry


def entry_in(text):
    """The entry that the text writes, None where it writes none."""
    words = text.split(" ")
    sorts = FORMS.get(words[0], ())
    if len(words) != len(sorts) + 1:
        return None
    parts = [part_in(word, sort) for word, sort in zip(words[1:], sorts)]
    entry = (words[0], *parts)
    return entry if is_entry(entry) else None


def part_in(word, sort):
    """The part of an entry that the word writes, as far as its sort tells; None where it writes none."""
    if sort == "name":
        return word
    if sort != "end":
        return number_of(word)
    if word == OUTSIDE:
        return ""
    # The outside is the text without signs, but it isn't written so.
    return None if word == "" else word


def read_house(text):
    """The house that is written so."""
    if not isinstance(text, str):
        raise NoText(0)
    lines = text.split("\n")
    places = names_in(lines[0], "places", MOST_PLACES)
    if places is None:
        raise NoText(0)
    goods = names_in(lines[1], "goods", MOST_GOODS) if len(lines) > 1 else None
    if goods is None:
        raise NoText(1)
    return (places, goods, entries_in(lines, places, goods))


def names_in(line, word, most):
    """The rising tuple of names, one at least, behind the word; None where the line is no such line."""
    first, *names = line.split(" ")
    if first != word or not 1 <= len(names) <= most:
        return None
    if not all(is_name(name) for name in names) or not are_rising(names):
        return None
    return tuple(names)


def entries_in(lines, places, goods):
    """The entries of a house, of all its lines."""
    entries = []
    for at, line in enumerate(lines[2:]):
        entry = entry_in(line)
        if not is_entry_of(entry, places, goods) or not goes_behind(entry, entries):
            raise NoText(at + 2)
        entries.append(entry)
    return tuple(entries)


def goes_behind(entry, entries):
    """Whether a house may have the entry behind these, in its order."""
    if len(entries) >= MOST_ENTRIES or any(other[1] == entry[1] for other in entries):
        return False
    return entries == [] or goes_ahead(entries[-1], entry)


def read_row(text):
    """The row of a log that is written so."""
    row = row_in(text) if isinstance(text, str) else None
    if row is None:
        raise NoText(0)
    return row


def row_in(text):
    """The row of a log that the text writes, None where it writes none."""
    word, blank, rest = text.partition(" ")
    if word == "enter":
        entry = entry_in(rest)
        return None if entry is None else (word, entry)
    if word == "back":
        return (word, rest) if is_name(rest) else None
    if word == "close":
        day, blank, mode = rest.partition(" ")
        # What isn't written as a number is None, and that is no day.
        return (word, number_of(day), mode) if is_day(number_of(day)) and mode in MODES else None
    return None
