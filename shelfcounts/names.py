"""Names and whole numbers."""

LETTERS = "abcdefghijklmnopqrstuvwxyz"
LONGEST_NAME = 8


def is_name(thing):
    """Whether it is a name: a text of one to eight small letters."""
    if not isinstance(thing, str):
        return False
    return 1 <= len(thing) <= LONGEST_NAME and all(sign in LETTERS for sign in thing)


def is_whole(thing):
    """Whether it is a whole number: Python takes truths for such, this program does not."""
    return isinstance(thing, int) and not isinstance(thing, bool)


def are_rising(things):
    """Whether each of these goes behind the one ahead of it, as Python compares."""
    return all(low < high for low, high in zip(things, things[1:]))
