import copy
import itertools
import random
import unittest

from shelfcounts.books import below, book_behind, differences
from shelfcounts.clashes import clashes
from shelfcounts.errors import Clash
from shelfcounts.heaps import heaps, shut_rows
from shelfcounts.houses import house_of
from shelfcounts.known import told
from shelfcounts.lots import cost_of, worth_behind
from shelfcounts.pieces import pieces, ties
from shelfcounts.renamed import called
from tests.helper import drawn_house, fitting_house, whatever

HOUSE = house_of(("left", "right"), ("oil", "rice"), [
    ("come", "a", 5, "oil", "left", 3, 2), ("go", "b", 5, "rice", "right", 1),
    ("move", "c", 5, "oil", "left", "right", 3), ("some", "d", 5, "oil", "right", "left"),
    ("some", "e", 5, "rice", "left", ""), ("swap", "f", 5, "left", "right"),
    ("count", "g", 5, "oil", "left", 3, "left"), ("look", "h", 5, "rice", "left"),
])


def renamings(seed, house):
    """Dicts that call all otherwise, entries so that their order stays: each name by a longer one."""
    draw = random.Random(seed)
    fresh = ["".join(letters) for letters in itertools.product("pqr", repeat=3)]
    places = dict(zip(house[0], draw.sample(list(house[0]) + fresh, len(house[0]))))
    goods = dict(zip(house[1], draw.sample(list(house[1]) + fresh, len(house[1]))))
    names = {entry[1]: "m" + entry[1] for entry in house[2]}
    return places, goods, names


class CalledTest(unittest.TestCase):
    def refused(self, *dicts):
        with self.subTest(dicts=str(dicts)[:80]):
            self.assertRaises(Clash, called, HOUSE, *dicts)

    def test_nothing_is_called_otherwise(self):
        self.assertEqual(called(HOUSE, {}, {}, {}), HOUSE)
        empty = house_of(("x",), ("oil",), ())
        self.assertEqual(called(empty, {}, {}, {}), empty)
        self.assertEqual(called(empty, {"x": "y"}, {"oil": "salt"}, {"a": "b"}), (("y",), ("salt",), ()))

    def test_each_sort_by_its_own_dict(self):
        house = called(HOUSE, {"left": "zone"}, {"oil": "salt"}, {"a": "left", "g": "oil"})
        self.assertEqual(house, house_of(("right", "zone"), ("rice", "salt"), [
            ("come", "left", 5, "salt", "zone", 3, 2), ("go", "b", 5, "rice", "right", 1),
            ("move", "c", 5, "salt", "zone", "right", 3), ("some", "d", 5, "salt", "right", "zone"),
            ("some", "e", 5, "rice", "zone", ""), ("swap", "f", 5, "zone", "right"),
            ("count", "oil", 5, "salt", "zone", 3, "left"), ("look", "h", 5, "rice", "zone"),
        ]))
        # The come goes behind the others of its moment, the count behind the look.
        self.assertEqual([entry[1] for entry in house[2]], ["f", "b", "c", "d", "e", "left", "h", "oil"])

    def test_names_exchanged(self):
        dicts = ({"left": "right", "right": "left"}, {"oil": "rice", "rice": "oil"}, {"a": "b", "b": "a"})
        house = called(HOUSE, *dicts)
        self.assertEqual(house[:2], HOUSE[:2])
        self.assertEqual(house[2][:4], (
            ("swap", "f", 5, "right", "left"), ("go", "a", 5, "oil", "left", 1),
            ("come", "b", 5, "rice", "right", 3, 2), ("move", "c", 5, "rice", "right", "left", 3),
        ))
        self.assertEqual(called(house, *dicts), HOUSE)

    def test_names_that_the_house_does_not_have(self):
        others = {"yard": "left", "zone": "left", "front": "right"}
        self.assertEqual(called(HOUSE, others, {"salt": "oil", "corn": "oil"}, {"x": "a", "y": "a"}), HOUSE)
        # A name of another sort changes nothing, too.
        self.assertEqual(called(HOUSE, {"oil": "x", "a": "y"}, {"left": "x"}, {"oil": "x"}), HOUSE)

    def test_two_names_that_would_become_one(self):
        self.refused({"left": "right"}, {}, {})
        self.refused({"left": "x", "right": "x"}, {}, {})
        self.refused({}, {"rice": "oil"}, {})
        self.refused({}, {"rice": "x", "oil": "x"}, {})
        self.refused({}, {}, {"a": "b"})
        self.refused({}, {}, {"a": "h", "b": "a"})
        self.refused({}, {}, {"a": "x", "h": "x"})
        self.assertEqual(called(HOUSE, {"left": "left"}, {"oil": "oil"}, {"a": "a"}), HOUSE)
        # One that is there no more may be what another one becomes.
        self.assertEqual(called(HOUSE, {"left": "right", "right": "x"}, {}, {})[0], ("right", "x"))
        self.assertEqual(called(HOUSE, {}, {}, {"a": "b", "b": "x"})[2][1][:2], ("come", "b"))

    def test_keys_and_values_that_are_no_names(self):
        for thing in whatever():
            for at in range(3):
                for key in ("left", "oil", "a", "zz"):
                    self.refused(*[{key: thing} if at == number else {} for number in range(3)])
                if not isinstance(thing, (list, dict)):
                    try:
                        bad = {thing: "zz"}
                    except TypeError:
                        continue
                    self.refused(*[bad if at == number else {} for number in range(3)])
        self.refused({"left": "x", "zz": ""}, {}, {})
        self.refused({"left": "left"}, {}, {"": ""})

    def test_the_same_called_otherwise(self):
        for seed in range(120):
            house = drawn_house(seed) if seed % 2 else fitting_house(seed)
            places, goods, names = renamings(seed, house)
            other = called(house, places, goods, names)
            self.assertEqual([entry[1] for entry in other[2]], [names[entry[1]] for entry in house[2]])
            self.assertEqual(house_of(*other), other)
            for good in house[1]:
                self.same_pieces(house, good, other, goods[good], places, names)
                self.same_numbers(house, good, other, goods[good], places, names)
            self.assertEqual(differences(other), sorted(
                (goods[good], names[ahead], names[name], many) for good, ahead, name, many in differences(house)))
            self.assertEqual(below(other), sorted(
                (goods[good], names[name], places[place], book) for good, name, place, book in below(house)))

    def same_pieces(self, house, good, other, new, places, names):
        def piece(old):
            return None if old is None else (places[old[0]], old[1])

        def name(old):
            return None if old is None else names[old]

        def tie(old):
            return (old[0], places[old[1]] if old[0] in ("begin", "now") else names[old[1]])

        self.assertEqual(pieces(other, new), sorted(
            ((piece(row[0]), name(row[1]), name(row[2]), tuple(map(name, row[3])), row[4])
             for row in pieces(house, good)), key=lambda row: row[0]))
        self.assertEqual(ties(other, new), sorted(
            ((tie(row[0]), piece(row[1]), piece(row[2])) for row in ties(house, good)), key=lambda row: row[0]))
        self.assertEqual(heaps(other, new), sorted(
            (tuple(sorted(map(piece, members))), total, shut) for members, total, shut in heaps(house, good)))
        self.assertEqual(shut_rows(other, new), sorted(
            (tuple(sorted(map(name, row))), total) for row, total in shut_rows(house, good)))
        if not clashes(house, good):
            for row in ties(house, good):
                old = told(house, good, row[0])
                if old[0] == "known":
                    self.assertEqual(told(other, new, tie(row[0]))[:2], old[:2])
                else:
                    self.assertEqual(told(other, new, tie(row[0]))[0], "free")

    def same_numbers(self, house, good, other, new, places, names):
        for at in range(len(house[2]) + 1):
            self.assertEqual(worth_behind(other, new, at), worth_behind(house, good, at))
            for place in house[0]:
                self.assertEqual(book_behind(other, new, places[place], at), book_behind(house, good, place, at))
        for entry in house[2]:
            if entry[0] == "go":
                self.assertEqual(cost_of(other, names[entry[1]]), cost_of(house, entry[1]))

    def test_what_is_handed_in_stays(self):
        dicts = ({"left": "zone"}, {"oil": "salt"}, {"a": "left"})
        house, kept = copy.deepcopy(HOUSE), copy.deepcopy(dicts)
        other = called(house, *dicts)
        first = copy.deepcopy(other)
        self.assertEqual((house, dicts), (HOUSE, kept))
        for some in dicts:
            some.clear()
        self.assertEqual(other, first)
        self.assertRaises(Clash, called, house, {"left": "right"}, {}, {})
        self.assertEqual(house, HOUSE)


if __name__ == "__main__":
    unittest.main()
