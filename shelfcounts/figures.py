"""Whole numbers as they are written."""

FIGURES = "0123456789"
MOST_FIGURES = 60


def number_of(word):
    """The whole number from 0 on that the word writes, None where it writes none or has too many figures."""
    if not 1 <= len(word) <= MOST_FIGURES or not all(sign in FIGURES for sign in word):
        return None
    if word.startswith("0") and word != "0":
        return None
    return int(word)


def amount_of(word):
    """The whole number, perhaps below nought, that the word writes, None where it writes none or is too long."""
    if not word.startswith("-"):
        return number_of(word)
    amount = number_of(word[1:])
    # There is no nought below nought.
    return None if amount is None or amount == 0 else -amount
