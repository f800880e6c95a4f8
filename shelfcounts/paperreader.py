"""Reads what is told of ties, and trees, as they are written; whether they show anything isn't asked."""

from shelfcounts.errors import NoText
from shelfcounts.figures import amount_of, number_of
from shelfcounts.names import are_rising, is_name
from shelfcounts.papertexts import NONE

TIE_WORDS = ("begin", "now", "look", "some")
SIGNS = {"+": True, "-": False}
LAST_PIECE = 99
MOST_WITHIN = 3


def read_told(text):
    """What is told of a tie, as it is written so."""
    paper = paper_in(text) if isinstance(text, str) else None
    if paper is None:
        raise NoText(0)
    return paper


def paper_in(text):
    """What is told of a tie by the text, None where it is no such text."""
    word, blank, rest = text.partition(" ")
    if word == "free":
        ring = ring_in(rest)
        return None if ring is None else ("free", ring)
    if word == "known":
        told, blank, rest = rest.partition(" ")
        amount = amount_of(told)
        side = side_in(rest)
        return None if amount is None or side is None else ("known", amount, side)
    return None


def side_in(text):
    """The side that the text writes, None where it writes none."""
    if text == NONE:
        return []
    side = [piece_in(word) for word in text.split(" ")]
    return None if None in side or not are_rising(side) else side


def piece_in(word):
    """The piece that the word writes, None where it writes none."""
    track, colon, figures = word.partition(":")
    number = number_of(figures)
    if not is_name(track) or number is None or number > LAST_PIECE:
        return None
    return (track, number)


def ring_in(text):
    """The ring that the text writes, perhaps of none or one, None where it writes none."""
    if text == NONE:
        return []
    ring = [step_in(word) for word in text.split(" ")]
    if None in ring or len({step[0] for step in ring}) != len(ring):
        return None
    return ring


def step_in(text):
    """The step of a ring that the text writes, None where it writes none."""
    word, colon, name = text[1:].partition(":")
    if text[:1] not in SIGNS or word not in TIE_WORDS or not is_name(name):
        return None
    return ((word, name), SIGNS[text[:1]])


def read_tree(text):
    """The tree that is written so."""
    if not isinstance(text, str):
        raise NoText(0)
    tree, end = tree_from(text, 0, MOST_WITHIN)
    if end != len(text):
        raise NoText(0)
    return tree


def tree_from(text, start, most):
    """The tree of at most so many within one another that is written from this sign on, and where it ends."""
    good, bracket, rest = text[start:].partition("[")
    told, brackets, rest = rest.partition("](")
    names = tuple(told.split(" "))
    if most == 0 or brackets == "" or not is_name(good):
        raise NoText(0)
    if not all(is_name(name) for name in names) or not are_rising(names):
        raise NoText(0)
    trees, end = trees_from(text, len(text) - len(rest), most - 1)
    if len(trees) not in (0, len(names)):
        raise NoText(0)
    return (good, names, trees), end


def trees_from(text, start, most):
    """The trees that are written from this sign on up to the bracket behind them, and where it ends."""
    if text.startswith(")", start):
        return (), start + 1
    trees = []
    at = start
    while True:
        tree, at = tree_from(text, at, most)
        trees.append(tree)
        if text.startswith(")", at):
            return tuple(trees), at + 1
        if not text.startswith(" ", at):
            raise NoText(0)
        at += 1
