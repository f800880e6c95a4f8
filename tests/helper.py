"""What several tests need: things of all kinds, and houses made by numbers drawn from a seed."""

import random

from shelfcounts.houses import house_of

PLACES = ("back", "cellar", "front", "left", "right", "yard")
GOODS = ("oil", "rice", "salt")


def nested(kind, depth):
    """A thing many times within one another."""
    thing = None
    for step in range(depth):
        if kind == "list":
            thing = [thing]
        elif kind == "tuple":
            thing = (thing,)
        else:
            thing = {"a": thing}
    return thing


def whatever():
    """Things of all kinds that may be handed in where whatever thing may be; none is a name or an entry."""
    return [
        None, True, False, 0, 1, -1, 7, 10 ** 60 - 1, -(10 ** 60 - 1),
        "", " ", "A", "a b", "a\n", "\n", "a1", "abcdefghi", "x" * 10000,
        (), (None,), ("a",), ("come",), ("come", "a"), ((),), ([],), ({},), (("a",),), (["come"],), ({"come": 1},),
        (True,) * 7, (0,) * 6, ("a",) * 5, ("a",) * 2000,
        [], [None], ["a"], [[]], [()], ["a"] * 2000,
        {}, {"a": "b"}, {"a": ["b"]}, {1: 2},
        nested("list", 60), nested("tuple", 60), nested("dict", 60),
    ]


def drawn_house(seed):
    """A house with entries of all words, few places and moments so that much touches the same."""
    draw = random.Random(seed)
    places = PLACES[:draw.randint(1, 4)]
    goods = GOODS[:draw.randint(1, 2)]
    words = ["come", "go", "count", "count", "count", "look"]
    if len(places) > 1:
        words += ["move", "some", "some", "swap"]
    else:
        words += ["some"]
    names = ["".join(draw.choice("abcdefgh") for letter in range(2)) for number in range(40)]
    entries = {}
    for name in names[:draw.randint(0, 30)]:
        entries[name] = drawn_entry(draw, draw.choice(words), name, places, goods)
    return house_of(places, goods, list(entries.values()))


def drawn_entry(draw, word, name, places, goods):
    """One entry of the word."""
    moment = draw.randint(0, 9) * draw.choice([1, 100])
    good = draw.choice(goods)
    one = draw.choice(places)
    rest = [place for place in places if place != one]
    many = draw.randint(1, 9)
    if word == "come":
        return (word, name, moment, good, one, many, draw.randint(0, 5))
    if word == "go":
        return (word, name, moment, good, one, many)
    if word == "move":
        return (word, name, moment, good, one, draw.choice(rest), many)
    if word == "some":
        return (word, name, moment, good, one, draw.choice(rest + [""]))
    if word == "swap":
        return (word, name, moment, one, draw.choice(rest))
    if word == "count":
        return (word, name, moment, good, one, draw.randint(0, 9), draw.choice(["ann", "bob"]))
    return (word, name, moment, good, one)
