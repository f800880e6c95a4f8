"""What several tests need: things of all kinds, and houses made by numbers drawn from a seed."""

import itertools
import random

from shelfcounts.houses import house_of

PLACES = ("back", "cellar", "front", "left", "right", "yard")
GOODS = ("oil", "rice", "salt")


def nested(kind, depth):
    """A thing many times within one another."""
    thing = None
    for step in range(depth):
        if kind == "list":
            thing = [thing]
        elif kind == "tuple":
            thing = (thing,)
        else:
            thing = {"a": thing}
    return thing


def whatever():
    """Things of all kinds that may be handed in where whatever thing may be; none is a name or an entry."""
    return [
        None, True, False, 0, 1, -1, 7, 10 ** 60 - 1, -(10 ** 60 - 1),
        "", " ", "A", "a b", "a\n", "\n", "a1", "abcdefghi", "x" * 10000,
        (), (None,), ("a",), ("come",), ("come", "a"), ((),), ([],), ({},), (("a",),), (["come"],), ({"come": 1},),
        (True,) * 7, (0,) * 6, ("a",) * 5, ("a",) * 2000,
        [], [None], ["a"], [[]], [()], ["a"] * 2000,
        {}, {"a": "b"}, {"a": ["b"]}, {1: 2},
        nested("list", 60), nested("tuple", 60), nested("dict", 60),
    ]


def drawn_house(seed):
    """A house with entries of all words, few places and moments so that much touches the same."""
    draw = random.Random(seed)
    places = PLACES[:draw.randint(1, 4)]
    goods = GOODS[:draw.randint(1, 2)]
    words = ["come", "go", "count", "count", "count", "look"]
    if len(places) > 1:
        words += ["move", "some", "some", "swap"]
    else:
        words += ["some"]
    names = ["".join(draw.choice("abcdefgh") for letter in range(2)) for number in range(40)]
    entries = {}
    # In every other house all is counted at first and at last, so that pieces of several tracks are shut in together.
    if seed % 2 == 1:
        for place, good, moment in itertools.product(places, goods, (0, 9000)):
            name = place[:3] + good[:1] + ("x" if moment == 0 else "y")
            entries[name] = ("count", name, moment, good, place, draw.randint(0, 9), "cid")
    for name in names[:draw.randint(0, 30 - len(entries))]:
        entries[name] = drawn_entry(draw, draw.choice(words), name, places, goods)
    return house_of(places, goods, list(entries.values()))


def drawn_entry(draw, word, name, places, goods):
    """One entry of the word."""
    moment = draw.randint(0, 9) * draw.choice([1, 100])
    good = draw.choice(goods)
    one = draw.choice(places)
    rest = [place for place in places if place != one]
    many = draw.randint(1, 9)
    if word == "come":
        return (word, name, moment, good, one, many, draw.randint(0, 5))
    if word == "go":
        return (word, name, moment, good, one, many)
    if word == "move":
        return (word, name, moment, good, one, draw.choice(rest), many)
    if word == "some":
        return (word, name, moment, good, one, draw.choice(rest + [""]))
    if word == "swap":
        return (word, name, moment, one, draw.choice(rest))
    if word == "count":
        return (word, name, moment, good, one, draw.randint(0, 9), draw.choice(["ann", "bob"]))
    return (word, name, moment, good, one)


def looks(count, good="oil", place="left"):
    """So many looks, of rising names and moments."""
    names = ["".join(letters) for letters in itertools.product("abcdef", repeat=2)][:count]
    return [("look", name, at, good, place) for at, name in enumerate(names)]


class Box:
    """What stood at a place at first and is carried about by swaps, told step by step for one good."""

    def __init__(self, label, amount):
        self.label = label
        self.amount = amount
        self.rows = []
        self.start_piece(None, 0)

    def piece(self):
        return (self.label, len(self.rows))

    def start_piece(self, opened, counted):
        self.opened = opened
        self.balance = -counted
        self.inside = []

    def end_piece(self, closed, counted):
        self.rows.append((self.piece(), self.opened, closed, tuple(self.inside), self.balance + counted))
        self.start_piece(closed, counted)


class Walk:
    """A walk through a house for one good with amounts drawn from a seed: what boxes hold, and which ties there are.

    Where true is set, counts tell what stands there in the walk, in the place of what they tell.
    """

    def __init__(self, house, good, seed=0, true=False):
        self.draw = random.Random(seed)
        self.good = good
        self.true = true
        self.entries = []
        self.ties = []
        self.amounts = {}
        self.boxes = {place: Box(place, self.draw.randint(1000, 2000)) for place in house[0]}
        for place in house[0]:
            self.tie(("begin", place), None, (place, 0), self.boxes[place].amount)
        for entry in house[2]:
            self.entries.append(self.step(entry))
        for box in self.boxes.values():
            self.tie(("now", box.label), box.piece(), None, box.amount)
            box.end_piece(None, 0)
        self.pieces = sorted([row for box in self.boxes.values() for row in box.rows], key=lambda row: row[0])
        self.ties.sort(key=lambda row: row[0])

    def tie(self, tie, out, into, amount):
        self.ties.append((tie, out, into))
        self.amounts[tie] = amount

    def step(self, entry):
        """Walks over the entry and tells it, with the many of the walk where it is a count and counts are true."""
        word = entry[0]
        if word == "swap":
            one, other = entry[3:]
            self.boxes[one], self.boxes[other] = self.boxes[other], self.boxes[one]
        elif entry[3] == self.good:
            box = self.boxes[entry[4]]
            if word == "count":
                if self.true:
                    entry = entry[:5] + (box.amount,) + entry[6:]
                box.end_piece(entry[1], entry[5])
            elif word == "look":
                out = box.piece()
                box.end_piece(entry[1], 0)
                self.tie(("look", entry[1]), out, box.piece(), box.amount)
            else:
                self.carry(entry, box)
        return entry

    def carry(self, entry, box):
        word = entry[0]
        if word == "come":
            self.put(entry, box, entry[5], True)
        elif word == "go":
            self.put(entry, box, -entry[5], True)
        elif word == "move":
            self.put(entry, box, -entry[6], True)
            self.put(entry, self.boxes[entry[5]], entry[6], True)
        else:
            amount = self.draw.randint(-20, 20)
            into = None
            self.put(entry, box, -amount, False)
            if entry[5] != "":
                self.put(entry, self.boxes[entry[5]], amount, False)
                into = self.boxes[entry[5]].piece()
            self.tie(("some", entry[1]), box.piece(), into, amount)

    def put(self, entry, box, many, told):
        box.amount += many
        box.inside.append(entry[1])
        if told:
            box.balance -= many
