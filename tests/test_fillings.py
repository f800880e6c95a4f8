import copy
import unittest

from shelfcounts.clashes import clashes
from shelfcounts.errors import NoFilling
from shelfcounts.fillings import filling, is_filling
from shelfcounts.houses import house_of, with_entry
from shelfcounts.pieces import pieces, ties
from tests.helper import (
    MIXED, Walk, drawn_house, fitting_house, looks, of_other_kinds, reshaped, solvable, whatever,
)

EMPTY = house_of(("a",), ("oil",), ())


def fills_by_the_words(house, good, amounts):
    """Of a list of whole numbers, as many as ties, what the document says."""
    reached = {row[0]: 0 for row in pieces(house, good)}
    for amount, (tie, out, into) in zip(amounts, ties(house, good), strict=True):
        if out is not None:
            reached[out] -= amount
        if into is not None:
            reached[into] += amount
    return reached == {row[0]: row[4] for row in pieces(house, good)}


class FillingsTest(unittest.TestCase):
    def test_which_are_fillings(self):
        self.assertEqual([row[0] for row in ties(MIXED, "oil")], [
            ("begin", "a"), ("begin", "b"), ("look", "e"), ("now", "a"), ("now", "b"), ("some", "d"),
        ])
        self.assertIs(is_filling(MIXED, "oil", [3, 10, 8, 5, 4, -2]), True)
        self.assertIs(is_filling(MIXED, "oil", [3, 0, -2, 5, -6, -2]), True)
        self.assertIs(is_filling(MIXED, "oil", [3, 10, 8, 5, 4, 2]), False)
        self.assertIs(is_filling(MIXED, "oil", [3, 0, 0, 5, 0, 0]), False)
        self.assertIs(is_filling(MIXED, "rice", [7, -1, 7, -1]), True)
        self.assertIs(is_filling(MIXED, "rice", [7, -1, -1, 7]), False)
        self.assertIs(is_filling(MIXED, "rice", [3, 10, 8, 5, 4, -2]), False)
        self.assertIs(is_filling(MIXED, "oil", [7, -1, 7, -1]), False)

    def test_known_amounts_are_in_the_filling_that_is_told(self):
        told = filling(MIXED, "oil")
        self.assertIs(is_filling(MIXED, "oil", told), True)
        self.assertEqual([told[0], told[3], told[5]], [3, 5, -2])
        self.assertEqual(told[2], told[1] - 2)
        self.assertEqual(told[4], told[2] - 4)

    def test_a_house_without_entries(self):
        self.assertIs(is_filling(EMPTY, "oil", [0, 0]), True)
        self.assertIs(is_filling(EMPTY, "oil", [10 ** 60 - 1, 10 ** 60 - 1]), True)
        self.assertIs(is_filling(EMPTY, "oil", [-4, -4]), True)
        self.assertIs(is_filling(EMPTY, "oil", [0, 1]), False)
        self.assertIs(is_filling(EMPTY, "oil", [0]), False)
        self.assertIs(is_filling(EMPTY, "oil", [0, 0, 0]), False)
        self.assertIs(is_filling(EMPTY, "oil", []), False)
        self.assertIs(is_filling(EMPTY, "oil", filling(EMPTY, "oil")), True)

    def test_thirty_entries(self):
        house = house_of(("left",), ("oil",), looks(30))
        told = filling(house, "oil")
        self.assertEqual(told, [told[0]] * 32)
        self.assertIs(is_filling(house, "oil", [9] * 32), True)
        self.assertIs(is_filling(house, "oil", [9] * 15 + [8] + [9] * 16), False)
        counted = house[2][:14] + (("count", "zz", 14, "oil", "left", 6, "ann"),) + house[2][15:]
        self.assertEqual(filling(house_of(("left",), ("oil",), counted), "oil"), [6] * 31)

    def test_shut_heaps_with_ties_are_filled(self):
        house = house_of(("a", "b", "c"), ("oil",), [
            *[("count", "d" + place, 1, "oil", place, 5, "ann") for place in "abc"],
            ("some", "e", 2, "oil", "a", "b"), ("some", "f", 2, "oil", "c", "b"), ("some", "g", 3, "oil", "c", "a"),
            ("look", "h", 3, "oil", "a"),
            *[("count", "i" + place, 4, "oil", place, many, "ann") for place, many in (("a", 1), ("b", 12), ("c", 2))],
        ])
        self.assertIs(is_filling(house, "oil", filling(house, "oil")), True)

    def test_clashing_goods_have_none(self):
        house = with_entry(MIXED, ("count", "h", 5, "oil", "a", 6, "ann"))
        with self.assertRaises(NoFilling) as caught:
            filling(house, "oil")
        self.assertIs(type(caught.exception), NoFilling)
        self.assertIs(is_filling(house, "oil", [3, 10, 8, 6, 4, -2]), False)
        self.assertIs(is_filling(house, "rice", filling(house, "rice")), True)

    def test_there_is_one_just_where_the_good_does_not_clash(self):
        fitting = clashing = below = 0
        for seed in range(300):
            house = drawn_house(seed)
            for good in house[1]:
                with self.subTest(seed=seed, good=good):
                    if solvable(house, good):
                        told = filling(house, good)
                        self.assertIs(is_filling(house, good, told), True)
                        self.assertTrue(fills_by_the_words(house, good, told))
                        fitting += 1
                        below += min(told) < 0
                    else:
                        self.assertRaises(NoFilling, filling, house, good)
                        clashing += 1
        self.assertGreater(min(fitting, clashing, below), 50)

    def test_what_stood_in_a_walk_is_a_filling_and_one_off_is_none(self):
        for seed in range(60):
            house = fitting_house(seed)
            for good in house[1]:
                with self.subTest(seed=seed, good=good):
                    amounts = Walk(house, good, seed, True).amounts
                    stood = [amounts[row[0]] for row in ties(house, good)]
                    self.assertIs(clashes(house, good), False)
                    self.assertIs(is_filling(house, good, stood), True)
                    self.assertIs(is_filling(house, good, filling(house, good)), True)
                    for at in range(len(stood)):
                        for off in (-1, 1):
                            wrong = stood[:at] + [stood[at] + off] + stood[at + 1:]
                            self.assertIs(is_filling(house, good, wrong), False)
                    for other in reshaped(stood):
                        right = len(other) == len(stood) and fills_by_the_words(house, good, other)
                        self.assertIs(is_filling(house, good, other), right)

    def test_whatever_is_no_filling(self):
        for thing in whatever() + [[thing] * 6 for thing in whatever()] + [[[3, 10, 8, 5, 4, -2]]]:
            self.assertIs(is_filling(MIXED, "oil", thing), False)
        for thing in whatever():
            self.assertIs(is_filling(EMPTY, "oil", [thing, thing]), type(thing) is int)

    def test_spoilt_fillings_are_none(self):
        for amounts in ([3, 1, -1, 5, -5, -2], [3, 2, 0, 5, -4, -2]):
            self.assertIs(is_filling(MIXED, "oil", amounts), True)
            for thing in of_other_kinds(amounts) + reshaped(amounts):
                self.assertIs(is_filling(MIXED, "oil", thing), False, thing)
        for amounts in ([1, 1], [0, 0]):
            for thing in of_other_kinds(amounts):
                self.assertIs(is_filling(EMPTY, "oil", thing), False, thing)

    def test_what_is_handed_in_and_told(self):
        house = copy.deepcopy(MIXED)
        amounts = [3, 10, 8, 5, 4, -2]
        self.assertIs(is_filling(house, "oil", amounts), True)
        self.assertEqual(amounts, [3, 10, 8, 5, 4, -2])
        first = filling(house, "oil")
        self.assertIs(type(first), list)
        self.assertEqual({type(amount) for amount in first}, {int})
        first[0] = 99
        first.pop()
        self.assertIs(is_filling(house, "oil", filling(house, "oil")), True)
        self.assertEqual(house, MIXED)


if __name__ == "__main__":
    unittest.main()
