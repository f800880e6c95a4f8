import copy
import random
import unittest

from shelfcounts.fillings import filling, is_filling
from shelfcounts.houses import house_of
from shelfcounts.pieces import ties
from shelfcounts.rings import is_ring, pushed
from tests.helper import drawn_house, fitting_house, looks, of_other_kinds, reshaped, whatever

EMPTY = house_of(("a",), ("oil",), ())
ROUND = [(("begin", "a"), True), (("now", "a"), True)]
# Three tracks of one piece each; the somes c to f lead between a and b, g to the outside.
HOUSE = house_of(("a", "b", "h"), ("oil", "rice"), [
    ("some", "c", 1, "oil", "a", "b"),
    ("some", "d", 1, "oil", "b", "a"),
    ("some", "e", 2, "oil", "a", "b"),
    ("some", "f", 3, "oil", "b", "a"),
    ("some", "g", 3, "oil", "b", ""),
    ("some", "i", 3, "rice", "b", ""),
])


def steps(text):
    """The steps that are written as word:name, a minus ahead of those that are gone back."""
    return [(tuple(word.lstrip("-").split(":")), not word.startswith("-")) for word in text.split()]


def ring_by_the_words(house, good, thing):
    """Of a list of tuples, what the document says."""
    ends = {tie: (out, into) for tie, out, into in ties(house, good)}
    if not all(len(step) == 2 and step[0] in ends and isinstance(step[1], bool) for step in thing):
        return False
    if len(thing) < 2 or len({step[0] for step in thing}) < len(thing):
        return False
    begins = [ends[tie][0 if forth else 1] for tie, forth in thing]
    reached = [ends[tie][1 if forth else 0] for tie, forth in thing]
    return reached == begins[1:] + begins[:1]


def walked_ring(house, good, draw):
    """A ring found by walking about, or None; it may pass pieces and the outside more than once."""
    led = ties(house, good)
    start = spot = draw.choice([None] + [row[1] or row[2] for row in led])
    ring = []
    while True:
        gone = [step[0] for step in ring]
        more = [((tie, True), into) for tie, out, into in led if out == spot and tie not in gone]
        more += [((tie, False), out) for tie, out, into in led if into == spot and tie not in gone]
        if not more or (ring and spot == start and draw.random() < 0.3):
            return ring if ring and spot == start else None
        step, spot = draw.choice(more)
        ring.append(step)


def walked_rings(house_by):
    """Tuples (house, good, ring), a hundred at least."""
    draw = random.Random(5)
    found = []
    for seed in range(150):
        house = house_by(seed)
        for good in house[1]:
            rings = [walked_ring(house, good, draw) for number in range(4)]
            found.extend((house, good, ring) for ring in rings if ring is not None)
    assert len(found) >= 100
    return found


class RingsTest(unittest.TestCase):
    def test_rings_of_two_ties(self):
        self.assertIs(is_ring(EMPTY, "oil", ROUND), True)
        self.assertIs(is_ring(EMPTY, "oil", ROUND[::-1]), True)
        self.assertIs(is_ring(EMPTY, "oil", steps("-begin:a -now:a")), True)
        self.assertIs(is_ring(EMPTY, "oil", steps("-now:a -begin:a")), True)
        self.assertIs(is_ring(HOUSE, "oil", steps("some:c some:d")), True)
        self.assertIs(is_ring(HOUSE, "oil", steps("some:c -some:e")), True)
        self.assertIs(is_ring(HOUSE, "oil", steps("-now:b some:g")), True)
        for text in ("begin:a -now:a", "-begin:a now:a", "some:c some:e", "some:c -some:d", "now:b some:g", "begin:a now:b"):
            self.assertIs(is_ring(HOUSE, "oil", steps(text)), False)

    def test_longer_rings(self):
        for text in ("begin:a some:c now:b", "some:c now:b begin:a", "-now:b some:d -begin:a", "begin:h now:h -now:b -begin:b",
                     "begin:a some:c some:d some:e some:g", "some:c some:d some:e some:f",
                     "begin:a now:a begin:b now:b begin:h now:h", "now:h begin:a now:a begin:h",
                     "begin:b some:d some:e some:f -begin:a -some:g now:b"):
            self.assertIs(is_ring(HOUSE, "oil", steps(text)), True, text)

    def test_what_does_not_end_where_it_begins(self):
        for text in ("begin:a some:c", "some:c now:b", "some:c some:d some:e", "begin:a some:c now:a", "begin:a now:b some:d",
                     "now:h begin:a now:b begin:h", "begin:h now:h begin:a"):
            self.assertIs(is_ring(HOUSE, "oil", steps(text)), False, text)

    def test_no_tie_twice_and_two_at_least(self):
        self.assertIs(is_ring(HOUSE, "oil", []), False)
        for text in ("some:c", "begin:a", "some:c -some:c", "begin:a -begin:a", "some:c some:d some:c some:d",
                     "begin:a now:a begin:a now:a", "some:c some:d some:c some:f", "begin:a some:c -some:c now:a"):
            self.assertIs(is_ring(HOUSE, "oil", steps(text)), False, text)

    def test_ties_that_the_good_has_not(self):
        for text in ("begin:z now:z", "some:a some:b", "look:c some:d", "some:i -now:b", "begin:b some:i"):
            self.assertIs(is_ring(HOUSE, "oil", steps(text)), False, text)
        self.assertIs(is_ring(HOUSE, "rice", steps("begin:b some:i")), True)
        self.assertIs(is_ring(HOUSE, "rice", steps("some:c some:d")), False)

    def test_looks_one_behind_the_other(self):
        house = house_of(("left",), ("oil",), looks(30))
        middle = [(("look", look[1]), True) for look in looks(30)]
        ring = [(("begin", "left"), True)] + middle + [(("now", "left"), True)]
        self.assertIs(is_ring(house, "oil", ring), True)
        self.assertIs(is_ring(house, "oil", [(tie, False) for tie, forth in ring[::-1]]), True)
        self.assertIs(is_ring(house, "oil", ring[:-1]), False)
        self.assertIs(is_ring(house, "oil", middle), False)
        self.assertIs(is_ring(house, "oil", ring[:7] + ring[8:]), False)
        self.assertEqual(pushed(house, "oil", [1] * 32, ring, -3), [-2] * 32)

    def test_whatever_is_no_ring(self):
        for thing in whatever():
            for wrong in (thing, [thing], [thing, thing], ROUND + [thing], [ROUND[0], thing], [(thing, True), ROUND[1]],
                          [((thing, "a"), True), ROUND[1]]):
                self.assertIs(is_ring(EMPTY, "oil", wrong), False)
            self.assertIs(is_ring(EMPTY, "oil", [(("begin", "a"), thing), ROUND[1]]), thing is True)
            self.assertIs(is_ring(EMPTY, "oil", [(("begin", thing), True), ROUND[1]]), False)

    def test_spoilt_rings_are_none(self):
        for house, ring in ((EMPTY, ROUND), (HOUSE, steps("-now:b some:d -begin:a"))):
            self.assertIs(is_ring(house, "oil", ring), True)
            for thing in of_other_kinds(ring):
                self.assertIs(is_ring(house, "oil", thing), False, thing)
        for number, ring in ((1, ROUND), (0, steps("-now:a -begin:a"))):
            self.assertIs(is_ring(EMPTY, "oil", [(ring[0][0], number), ring[1]]), False)
            self.assertIs(is_ring(EMPTY, "oil", [ring[0], (ring[1][0], number)]), False)

    def test_walked_rings_and_spoilt_ones_by_the_words_of_the_document(self):
        twice = outside = spoilt = 0
        for house, good, ring in walked_rings(drawn_house):
            self.assertIs(is_ring(house, good, ring), True)
            ends = {tie: (out, into) for tie, out, into in ties(house, good)}
            begins = [ends[tie][0 if forth else 1] for tie, forth in ring]
            outside += begins.count(None) > 1
            twice += any(begins.count(begin) > 1 for begin in begins if begin is not None)
            turned = [ring[:at] + [(ring[at][0], not ring[at][1])] + ring[at + 1:] for at in range(len(ring))]
            more = [ring + [(tie, forth)] for tie in ends for forth in (True, False)]
            for other in turned + more + reshaped(ring):
                right = ring_by_the_words(house, good, other)
                self.assertIs(is_ring(house, good, other), right, other)
                spoilt += not right
        self.assertGreater(outside, 20)
        self.assertGreater(twice, 10)
        self.assertGreater(spoilt, 1000)


class PushedTest(unittest.TestCase):
    def test_forth_and_back(self):
        order = [row[0] for row in ties(HOUSE, "oil")]
        self.assertEqual(order, [step[0] for step in steps(
            "begin:a begin:b begin:h now:a now:b now:h some:c some:d some:e some:f some:g")])
        amounts = [0, 0, 5, 0, 0, 5, 1, 1, 0, 0, 0]
        self.assertIs(is_filling(HOUSE, "oil", amounts), True)
        self.assertEqual(pushed(HOUSE, "oil", amounts, steps("some:c -some:e"), 3), [0, 0, 5, 0, 0, 5, 4, 1, -3, 0, 0])
        self.assertEqual(pushed(HOUSE, "oil", amounts, steps("begin:a some:c now:b"), -2),
                         [-2, 0, 5, 0, -2, 5, -1, 1, 0, 0, 0])
        self.assertEqual(pushed(HOUSE, "oil", amounts, steps("begin:a some:c now:b"), 0), amounts)
        huge = 10 ** 60 - 1
        self.assertEqual(pushed(HOUSE, "oil", amounts, steps("begin:h now:h"), huge),
                         [0, 0, 5 + huge, 0, 0, 5 + huge, 1, 1, 0, 0, 0])

    def test_it_is_a_filling_with_so_many_more_along_the_ring(self):
        for number, (house, good, ring) in enumerate(walked_rings(fitting_house)):
            amounts = filling(house, good)
            many = number % 41 - 20
            after = pushed(house, good, amounts, ring, many)
            self.assertIs(is_filling(house, good, after), True)
            gone = dict(ring)
            for row, ahead, behind in zip(ties(house, good), amounts, after, strict=True):
                self.assertEqual(behind - ahead, {True: many, False: -many, None: 0}[gone.get(row[0])])

    def test_what_is_handed_in_and_told(self):
        house = copy.deepcopy(HOUSE)
        amounts = filling(house, "oil")
        kept = list(amounts)
        ring = steps("some:c -some:e")
        first = pushed(house, "oil", amounts, ring, 3)
        self.assertIs(type(first), list)
        again = list(first)
        first.clear()
        self.assertEqual(pushed(house, "oil", amounts, ring, 3), again)
        self.assertEqual(amounts, kept)
        self.assertEqual(ring, steps("some:c -some:e"))
        self.assertEqual(house, HOUSE)
        still = pushed(house, "oil", amounts, ring, 0)
        still.clear()
        self.assertEqual(amounts, kept)


if __name__ == "__main__":
    unittest.main()
