"""What several tests need: things of all kinds, spoilt papers, and houses made by numbers drawn from a seed."""

import itertools
import random
from fractions import Fraction

from shelfcounts.houses import house_of
from shelfcounts.pieces import pieces, ties
from shelfcounts.states import closed_by, entered, taken_back

PLACES = ("back", "cellar", "front", "left", "right", "yard")
GOODS = ("oil", "rice", "salt")

# Its ties of oil are begin a, begin b, look e, now a, now b, some d.
MIXED = house_of(("a", "b"), ("oil", "rice"), [
    ("count", "c", 1, "oil", "a", 3, "ann"),
    ("some", "d", 2, "oil", "a", "b"),
    ("look", "e", 3, "oil", "b"),
    ("count", "f", 4, "oil", "a", 5, "ann"),
    ("go", "g", 4, "oil", "b", 4),
])


def nested(kind, depth):
    """A thing many times within one another."""
    thing = None
    for step in range(depth):
        if kind == "list":
            thing = [thing]
        elif kind == "tuple":
            thing = (thing,)
        else:
            thing = {"a": thing}
    return thing


def whatever():
    """Things of all kinds that may be handed in where whatever thing may be; none is a name or an entry."""
    return [
        None, True, False, 0, 1, -1, 7, 10 ** 60 - 1, -(10 ** 60 - 1),
        "", " ", "A", "a b", "a\n", "\n", "a1", "abcdefghi", "x" * 10000,
        (), (None,), ("a",), ("come",), ("come", "a"), ((),), ([],), ({},), (("a",),), (["come"],), ({"come": 1},),
        (True,) * 7, (0,) * 6, ("a",) * 5, ("a",) * 2000,
        [], [None], ["a"], [[]], [()], ["a"] * 2000,
        {}, {"a": "b"}, {"a": ["b"]}, {1: 2},
        nested("list", 60), nested("tuple", 60), nested("dict", 60),
    ]


def drawn_house(seed):
    """A house with entries of all words, few places and moments so that much touches the same."""
    draw = random.Random(seed)
    places = PLACES[:draw.randint(1, 4)]
    goods = GOODS[:draw.randint(1, 2)]
    words = ["come", "go", "count", "count", "count", "look"]
    if len(places) > 1:
        words += ["move", "some", "some", "swap"]
    else:
        words += ["some"]
    names = ["".join(draw.choice("abcdefgh") for letter in range(2)) for number in range(40)]
    entries = {}
    # In every other house all is counted at first and at last, so that pieces of several tracks are shut in together.
    if seed % 2 == 1:
        for place, good, moment in itertools.product(places, goods, (0, 9000)):
            name = place[:3] + good[:1] + ("x" if moment == 0 else "y")
            entries[name] = ("count", name, moment, good, place, draw.randint(0, 9), "cid")
    for name in names[:draw.randint(0, 30 - len(entries))]:
        entries[name] = drawn_entry(draw, draw.choice(words), name, places, goods)
    return house_of(places, goods, list(entries.values()))


def drawn_entry(draw, word, name, places, goods):
    """One entry of the word."""
    moment = draw.randint(0, 9) * draw.choice([1, 100])
    good = draw.choice(goods)
    one = draw.choice(places)
    rest = [place for place in places if place != one]
    many = draw.randint(1, 9)
    if word == "come":
        return (word, name, moment, good, one, many, draw.randint(0, 5))
    if word == "go":
        return (word, name, moment, good, one, many)
    if word == "move":
        return (word, name, moment, good, one, draw.choice(rest), many)
    if word == "some":
        return (word, name, moment, good, one, draw.choice(rest + [""]))
    if word == "swap":
        return (word, name, moment, one, draw.choice(rest))
    if word == "count":
        return (word, name, moment, good, one, draw.randint(0, 9), draw.choice(["ann", "bob"]))
    return (word, name, moment, good, one)


def fitting_house(seed):
    """A drawn house whose counts tell what stood in a walk with this seed, so that no good clashes."""
    house = drawn_house(seed)
    for good in house[1]:
        house = (house[0], house[1], tuple(Walk(house, good, seed, True).entries))
    return house


def small_house(seed):
    """A drawn house of at most twelve entries."""
    places, goods, entries = drawn_house(seed)
    draw = random.Random(seed)
    return house_of(places, goods, draw.sample(entries, min(len(entries), draw.randint(6, 12))))


def looks(count, good="oil", place="left"):
    """So many looks, of rising names and moments."""
    names = ["".join(letters) for letters in itertools.product("abcdef", repeat=2)][:count]
    return [("look", name, at, good, place) for at, name in enumerate(names)]


class Box:
    """What stood at a place at first and is carried about by swaps, told step by step for one good."""

    def __init__(self, label, amount):
        self.label = label
        self.amount = amount
        self.rows = []
        self.start_piece(None, 0)

    def piece(self):
        return (self.label, len(self.rows))

    def start_piece(self, opened, counted):
        self.opened = opened
        self.balance = -counted
        self.inside = []

    def end_piece(self, closed, counted):
        self.rows.append((self.piece(), self.opened, closed, tuple(self.inside), self.balance + counted))
        self.start_piece(closed, counted)


class Walk:
    """A walk through a house for one good with amounts drawn from a seed: what boxes hold, and which ties there are.

    Where true is set, counts tell what stands there in the walk, in the place of what they tell.
    """

    def __init__(self, house, good, seed=0, true=False):
        self.draw = random.Random(seed)
        self.good = good
        self.true = true
        self.entries = []
        self.ties = []
        self.amounts = {}
        self.boxes = {place: Box(place, self.draw.randint(1000, 2000)) for place in house[0]}
        for place in house[0]:
            self.tie(("begin", place), None, (place, 0), self.boxes[place].amount)
        for entry in house[2]:
            self.entries.append(self.step(entry))
        for box in self.boxes.values():
            self.tie(("now", box.label), box.piece(), None, box.amount)
            box.end_piece(None, 0)
        self.pieces = sorted([row for box in self.boxes.values() for row in box.rows], key=lambda row: row[0])
        self.ties.sort(key=lambda row: row[0])

    def tie(self, tie, out, into, amount):
        self.ties.append((tie, out, into))
        self.amounts[tie] = amount

    def step(self, entry):
        """Walks over the entry and tells it, with the many of the walk where it is a count and counts are true."""
        word = entry[0]
        if word == "swap":
            one, other = entry[3:]
            self.boxes[one], self.boxes[other] = self.boxes[other], self.boxes[one]
        elif entry[3] == self.good:
            box = self.boxes[entry[4]]
            if word == "count":
                if self.true:
                    entry = entry[:5] + (box.amount,) + entry[6:]
                box.end_piece(entry[1], entry[5])
            elif word == "look":
                out = box.piece()
                box.end_piece(entry[1], 0)
                self.tie(("look", entry[1]), out, box.piece(), box.amount)
            else:
                self.carry(entry, box)
        return entry

    def carry(self, entry, box):
        word = entry[0]
        if word == "come":
            self.put(entry, box, entry[5], True)
        elif word == "go":
            self.put(entry, box, -entry[5], True)
        elif word == "move":
            self.put(entry, box, -entry[6], True)
            self.put(entry, self.boxes[entry[5]], entry[6], True)
        else:
            amount = self.draw.randint(-20, 20)
            into = None
            self.put(entry, box, -amount, False)
            if entry[5] != "":
                self.put(entry, self.boxes[entry[5]], amount, False)
                into = self.boxes[entry[5]].piece()
            self.tie(("some", entry[1]), box.piece(), into, amount)

    def put(self, entry, box, many, told):
        box.amount += many
        box.inside.append(entry[1])
        if told:
            box.balance -= many


def places_in(thing):
    """All things within a thing of lists and tuples, itself first, each with what puts another one in its place."""
    yield thing, lambda other: other
    if isinstance(thing, (list, tuple)):
        for at, part in enumerate(thing):
            for inner, put in places_in(part):
                yield inner, (lambda other, at=at, put=put:
                              type(thing)([*thing[:at], put(other), *thing[at + 1:]]))


def of_other_kinds(thing):
    """The thing with one place of another kind: as Python compares, many of them are the same as it."""
    found = []
    for part, put in places_in(thing):
        others = [None, "", [part], (part,), {"a": part}, nested("list", 50), nested("tuple", 50)]
        if isinstance(part, bool):
            others += [int(part), str(part)]
        elif isinstance(part, int):
            others += [str(part), part == 1]
        elif isinstance(part, list):
            others += [tuple(part), dict(enumerate(part)), True, 0]
        elif isinstance(part, tuple):
            others += [list(part), dict(enumerate(part)), True, 0]
        else:
            others += [True, 0]
        found.extend(put(other) for other in others if repr(other) != repr(part))
    return found


def reshaped(thing):
    """The thing with a part of a list or tuple more, fewer, twice, or two of them exchanged."""
    found = []
    for part, put in places_in(thing):
        if isinstance(part, (list, tuple)):
            kind = type(part)
            for at in range(len(part)):
                found.append(put(kind([*part[:at], *part[at + 1:]])))
                found.append(put(kind([*part[:at + 1], *part[at:]])))
                found.append(put(kind([*part[:at], *part[at + 1:at + 2], part[at], *part[at + 2:]])))
                found.append(put(kind([*part[at:], *part[:at]])))
            found.append(put(kind([*part, part[0] if part else None])))
            found.append(put(kind(part[::-1])))
            found.append(put(kind([])))
    return [other for other in found if other != thing]


def null_vectors(house, good):
    """Amounts, with parts, that add nothing at any piece: all of them are sums of many times these.

    The rows of numbers are those of the asked sums, one for each piece, brought to steps as in school.
    """
    led = ties(house, good)
    rows = [[Fraction((into == piece) - (out == piece)) for tie, out, into in led] for piece in all_pieces(house, good)]
    heads = stepped(rows, len(led))
    found = []
    for free in [at for at in range(len(led)) if at not in heads]:
        vector = [Fraction(0)] * len(led)
        vector[free] = Fraction(1)
        for row, head in zip(rows, heads):
            vector[head] = -row[free]
        found.append(vector)
    return found


def all_pieces(house, good):
    return [row[0] for row in pieces(house, good)]


def stepped(rows, width):
    """Brings the rows to steps, each first number 1 and alone in its column; tells these columns."""
    heads = []
    for column in range(width):
        step = len(heads)
        found = [at for at in range(step, len(rows)) if rows[at][column] != 0]
        if found:
            rows[step], rows[found[0]] = rows[found[0]], rows[step]
            rows[step] = [number / rows[step][column] for number in rows[step]]
            for at in range(len(rows)):
                if at != step and rows[at][column] != 0:
                    rows[at] = [number - rows[at][column] * above for number, above in zip(rows[at], rows[step])]
            heads.append(column)
    return heads


def rank_at(vectors, columns):
    """How many of these columns of the vectors hang on none of the others."""
    rows = [[vector[column] for column in columns] for vector in vectors]
    return len(stepped(rows, len(columns)))


def solvable(house, good):
    """Whether any amounts, with parts, are as it is asked."""
    led = ties(house, good)
    rows = [[Fraction((into == piece) - (out == piece)) for tie, out, into in led] + [Fraction(balance)]
            for piece, opened, closed, inside, balance in pieces(house, good)]
    return len(led) not in stepped(rows, len(led) + 1)


def drawn_deeds(seed, many=40, closings=True):
    """Places, goods, and deeds for a state of them: entries of few names, some written down twice, names taken back."""
    draw = random.Random(seed)
    places = PLACES[:draw.randint(2, 4)]
    goods = GOODS[:draw.randint(1, 3)]
    words = ["come", "go", "move", "some", "swap", "count", "count", "count", "look"]
    names = draw.sample([one + other for one in "abcdefgh" for other in "abcdefgh"], 25)
    deeds = []
    for number in range(many):
        chance = draw.random()
        written = [deed for deed in deeds if deed[0] == "enter"]
        if chance < 0.1 and written:
            deeds.append(draw.choice(written))
        elif chance < 0.25:
            deeds.append(("back", draw.choice(names)))
        elif chance < 0.32 and closings:
            deeds.append(("close", draw.randint(0, 9), draw.choice(["refuse", "up"])))
        else:
            deeds.append(("enter", drawn_entry(draw, draw.choice(words), draw.choice(names), places, goods)))
    return places, goods, deeds


def state_behind(state, deed):
    """The state behind a deed."""
    if deed[0] == "enter":
        return entered(state, deed[1])
    if deed[0] == "back":
        return taken_back(state, deed[1])
    return closed_by(state, *deed[1:])


def done_by(keeper, deed):
    """What the keeper tells of a deed."""
    if deed[0] == "enter":
        return keeper.enter(deed[1])
    if deed[0] == "back":
        return keeper.back(deed[1])
    return keeper.close(*deed[1:])


def spoilt_texts(text, signs=" \na-0:+[]().z"):
    """The text with a sign more, fewer, twice, another one, or two exchanged, likewise with words and with lines."""
    found = ["", text + text, text + "\n" + text, text + " " + text]
    for at in range(len(text) + 1):
        for sign in signs:
            found += [text[:at] + sign + text[at:], text[:at] + sign + text[at + 1:]]
        found += [text[:at] + text[at + 1:], text[:at], text[at:], text[:at] + text[at:at + 1] + text[at:]]
        found.append(text[:at] + text[at + 1:at + 2] + text[at:at + 1] + text[at + 2:])
    for parting in (" ", "\n"):
        parts = text.split(parting)
        for at in range(len(parts)):
            found.append(parting.join(parts[:at] + parts[at + 1:]))
            found.append(parting.join(parts[:at + 1] + parts[at:]))
            found.append(parting.join(parts[:at] + parts[at + 1:at + 2] + parts[at:at + 1] + parts[at + 2:]))
            found.append(parting.join(parts[at:] + parts[:at]))
    return sorted(set(found))
