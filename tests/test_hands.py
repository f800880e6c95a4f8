import copy
import unittest

from shelfcounts.clashes import clashes
from shelfcounts.hands import clearing_hands, hands_of, without_hand
from shelfcounts.houses import house_of, without_entry
from tests.helper import drawn_house, fitting_house, looks, small_house, solvable

# Bob counted one too few of each good.
WRONG = house_of(("x", "y"), ("oil", "rice"), [
    ("count", "a", 1, "oil", "x", 5, "ann"), ("count", "b", 2, "oil", "x", 4, "bob"),
    ("count", "c", 3, "oil", "x", 5, "cid"), ("count", "d", 1, "rice", "y", 7, "ann"),
    ("count", "e", 2, "rice", "y", 6, "bob"), ("count", "f", 3, "rice", "y", 7, "ann"),
    ("come", "g", 4, "oil", "x", 9, 1), ("look", "h", 4, "oil", "x"),
])
EMPTY = house_of(("x",), ("oil",), ())


def fits(house):
    return all(solvable(house, good) for good in house[1])


def without_by_one(house, hand):
    for entry in house[2]:
        if entry[0] == "count" and entry[-1] == hand:
            house = without_entry(house, entry[1])
    return house


class HandsTest(unittest.TestCase):
    def test_hands_of_counts(self):
        self.assertEqual(hands_of(WRONG), ["ann", "bob", "cid"])
        self.assertEqual(hands_of(without_entry(WRONG, "c")), ["ann", "bob"])

    def test_no_counts(self):
        for house in (EMPTY, house_of(("left",), ("oil",), looks(30))):
            self.assertEqual(hands_of(house), [])
            self.assertEqual(clearing_hands(house), [])

    def test_a_hand_is_no_name_of_anything_else(self):
        house = house_of(("ann", "x"), ("ann", "oil"), [
            ("come", "ann", 1, "ann", "ann", 1, 1), ("count", "b", 2, "oil", "x", 1, "zoe"),
            ("look", "c", 3, "ann", "ann"), ("move", "d", 4, "ann", "ann", "x", 3), ("swap", "e", 5, "ann", "x"),
        ])
        self.assertEqual(hands_of(house), ["zoe"])
        self.assertEqual(without_hand(house, "ann"), house)
        self.assertEqual(without_hand(house, "zoe"), without_entry(house, "b"))

    def test_without_a_hand(self):
        self.assertEqual([entry[1] for entry in without_hand(WRONG, "bob")[2]], ["a", "d", "c", "f", "g", "h"])
        self.assertEqual([entry[1] for entry in without_hand(WRONG, "ann")[2]], ["b", "e", "c", "g", "h"])
        self.assertEqual(without_hand(WRONG, "zoe"), WRONG)
        self.assertEqual(without_hand(EMPTY, "ann"), EMPTY)

    def test_clearing_hands(self):
        self.assertTrue(clashes(WRONG, "oil") and clashes(WRONG, "rice"))
        self.assertEqual(clearing_hands(WRONG), ["bob"])
        pair = house_of(("x",), ("oil",), [("count", "a", 1, "oil", "x", 5, "bob"), ("count", "b", 2, "oil", "x", 4, "ann")])
        self.assertEqual(clearing_hands(pair), ["ann", "bob"])

    def test_no_hand_alone_clears(self):
        house = house_of(("x", "y"), ("oil",), [
            ("count", "a", 1, "oil", "x", 5, "ann"), ("count", "b", 2, "oil", "x", 4, "ann"),
            ("count", "c", 1, "oil", "y", 5, "bob"), ("count", "d", 2, "oil", "y", 4, "bob"),
        ])
        self.assertEqual(clearing_hands(house), [])

    def test_nothing_clashes(self):
        house = without_hand(WRONG, "bob")
        self.assertEqual(hands_of(house), ["ann", "cid"])
        self.assertEqual(clearing_hands(house), [])

    def test_drawn_houses(self):
        some = none = 0
        for seed in range(150):
            for house in (drawn_house(seed), small_house(seed), fitting_house(seed)):
                hands = sorted({entry[-1] for entry in house[2] if entry[0] == "count"})
                self.assertEqual(hands_of(house), hands)
                for hand in hands + ["zoe"]:
                    self.assertEqual(without_hand(house, hand), without_by_one(house, hand))
                expected = [] if fits(house) else [hand for hand in hands if fits(without_by_one(house, hand))]
                self.assertEqual(clearing_hands(house), expected)
                some += expected != []
                none += fits(house)
        self.assertGreater(min(some, none), 30)

    def test_what_is_handed_in_stays_and_what_is_told_is_the_askers(self):
        house = copy.deepcopy(WRONG)
        for ask in (hands_of, clearing_hands):
            first = ask(house)
            self.assertIs(type(first), list)
            kept = list(first)
            first.clear()
            self.assertEqual(ask(house), kept)
        without_hand(house, "bob")
        self.assertEqual(house, WRONG)


if __name__ == "__main__":
    unittest.main()
