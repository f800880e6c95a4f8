import copy
import itertools
import unittest

from shelfcounts.clashes import clashes
from shelfcounts.entries import is_entry
from shelfcounts.errors import NoFilling
from shelfcounts.houses import house_of, with_entry
from shelfcounts.known import told
from shelfcounts.pieces import ties
from shelfcounts.stocks import stock_at, stock_now
from shelfcounts.tracks import track_at
from tests.helper import MIXED, Walk, drawn_house, fitting_house, looks, null_vectors

HOUSE = house_of(("a", "b"), ("oil", "rice"), [
    ("count", "c", 10, "oil", "a", 5, "ann"),
    ("come", "d", 20, "oil", "a", 3, 1),
    ("go", "e", 30, "oil", "a", 1),
    ("swap", "f", 30, "a", "b"),
    ("come", "g", 40, "oil", "b", 2, 1),
    ("swap", "h", 50, "a", "b"),
    ("look", "i", 50, "oil", "a"),
    ("count", "j", 60, "rice", "b", 4, "ann"),
])


def shorter(house, moment):
    """The house of those entries that stand up to this moment."""
    return (house[0], house[1], tuple(entry for entry in house[2] if entry[2] <= moment))


class StockAtTest(unittest.TestCase):
    def test_moments_ahead_of_entries_at_them_and_behind_them(self):
        house = house_of(("a",), ("oil",), [
            ("count", "b", 10, "oil", "a", 5, "ann"), ("come", "c", 20, "oil", "a", 3, 1),
            ("go", "d", 9999, "oil", "a", 7), ("come", "e", 0, "oil", "a", 2, 1),
        ])
        stocks = {0: 5, 1: 5, 9: 5, 10: 5, 11: 5, 19: 5, 20: 8, 21: 8, 9998: 8, 9999: 1}
        self.assertEqual({moment: stock_at(house, "oil", "a", moment) for moment in stocks}, stocks)
        self.assertEqual(stock_now(house, "oil", "a"), 1)

    def test_amounts_ahead_of_all_entries(self):
        house = house_of(("a",), ("oil",), [
            ("come", "b", 1, "oil", "a", 3, 1), ("count", "c", 2, "oil", "a", 1, "ann"),
        ])
        self.assertEqual([stock_at(house, "oil", "a", moment) for moment in (0, 1, 2)], [-2, 1, 1])

    def test_swaps_of_the_moment_are_ahead_of_it(self):
        # The go e stands behind the swap f of its moment, so it takes from what was at b at first.
        self.assertEqual([stock_at(HOUSE, "oil", "a", moment) for moment in (0, 20, 29)], [5, 8, 8])
        self.assertEqual([stock_at(HOUSE, "oil", "b", moment) for moment in (30, 39, 40, 49)], [8, 8, 10, 10])
        self.assertEqual([stock_at(HOUSE, "oil", "a", moment) for moment in (50, 51, 9999)], [10, 10, 10])
        self.assertEqual([stock_at(HOUSE, "oil", "a", moment) for moment in (30, 40, 49)], [None] * 3)
        self.assertEqual([stock_at(HOUSE, "oil", "b", moment) for moment in (0, 10, 29, 50, 9999)], [None] * 5)

    def test_goods_apart(self):
        self.assertEqual([stock_at(HOUSE, "rice", "b", moment) for moment in (0, 29, 50, 60, 9999)], [4] * 5)
        self.assertEqual([stock_at(HOUSE, "rice", "a", moment) for moment in (30, 49)], [4] * 2)
        self.assertIsNone(stock_at(HOUSE, "rice", "a", 50))

    def test_counts_and_looks_of_the_moment(self):
        house = house_of(("a",), ("oil",), [
            ("count", "aa", 1, "oil", "a", 5, "ann"), ("look", "b", 1, "oil", "a"), ("go", "zz", 1, "oil", "a", 2),
            ("look", "zzzzzzzz", 1, "oil", "a"), ("count", "y", 1, "oil", "a", 5, "ann"),
        ])
        self.assertEqual([stock_at(house, "oil", "a", moment) for moment in (0, 1, 2)], [7, 5, 5])

    def test_a_house_without_entries(self):
        house = house_of(("a",), ("oil",), ())
        for moment in (0, 1, 9999):
            self.assertIsNone(stock_at(house, "oil", "a", moment))
        self.assertIsNone(stock_now(house, "oil", "a"))

    def test_thirty_entries_with_whatever_names(self):
        short = list("abcdefghijklmnopqrstuvwxyz") + ["look", "own", "stock", "now"]
        pairs = ["".join(pair) for pair in itertools.product("ab", "abcdefghijklmno")]
        for names in (short, pairs, ["a" * size for size in range(1, 9)] + pairs[8:]):
            entries = [("come", name, 100 + at, "oil", "left", 1, 1) for at, name in enumerate(names[1:30])]
            house = house_of(("left",), ("oil",), entries + [("count", names[0], 50, "oil", "left", 0, "ann")])
            self.assertEqual(len(house[2]), 30)
            self.assertEqual([stock_at(house, "oil", "left", moment) for moment in (0, 99, 100, 110, 127, 128, 9999)],
                             [0, 0, 1, 11, 28, 29, 29])
            self.assertEqual(stock_now(house, "oil", "left"), 29)
        house = house_of(("left",), ("oil",), looks(30))
        self.assertIsNone(stock_at(house, "oil", "left", 5))

    def test_clashing_goods(self):
        house = with_entry(MIXED, ("count", "h", 5, "oil", "a", 6, "ann"))
        for place, moment in itertools.product("ab", (0, 4, 5, 9999)):
            with self.assertRaises(NoFilling) as caught:
                stock_at(house, "oil", place, moment)
            self.assertIs(type(caught.exception), NoFilling)
            self.assertRaises(NoFilling, stock_now, house, "oil", place)
            self.assertIsNone(stock_at(house, "rice", place, moment))
            self.assertIsNone(stock_now(house, "rice", place))

    def test_what_stood_in_a_walk(self):
        known = free = 0
        for seed in range(80):
            house = fitting_house(seed)
            moments = sorted({0, 1, 9999} | {entry[2] + more for entry in house[2] for more in (0, 1)})
            for good, moment in itertools.product(house[1], moments[:12]):
                boxes = Walk(shorter(house, moment), good, seed, True).boxes
                for place in house[0]:
                    told_stock = stock_at(house, good, place, moment)
                    if told_stock is not None:
                        self.assertEqual(told_stock, boxes[place].amount)
                        known += 1
                    else:
                        free += 1
        self.assertGreater(known, 300)
        self.assertGreater(free, 300)

    def test_it_is_what_a_look_would_tell_whatever_its_name(self):
        for seed in range(60):
            house = fitting_house(seed)
            if len(house[2]) == 30:
                continue
            for good, place, moment in itertools.product(house[1][:1], house[0], (0, 3, 300, 9000)):
                for name in ("xa", "ax"):
                    asked = with_entry(house, ("look", name, moment, good, place))
                    at = [row[0] for row in ties(asked, good)].index(("look", name))
                    paper = told(asked, good, ("look", name))
                    stock = stock_at(house, good, place, moment)
                    self.assertEqual(stock, paper[1] if paper[0] == "known" else None)
                    self.assertIs(stock is None, any(vector[at] != 0 for vector in null_vectors(asked, good)))

    def test_what_is_handed_in_stays(self):
        house = copy.deepcopy(HOUSE)
        stock_at(house, "oil", "a", 30)
        stock_now(house, "oil", "a")
        self.assertEqual(house, HOUSE)
        self.assertTrue(all(is_entry(entry) for entry in house[2]))


class StockNowTest(unittest.TestCase):
    def test_the_track_that_is_there_behind_all_entries(self):
        self.assertEqual(stock_now(HOUSE, "oil", "a"), 10)
        self.assertIsNone(stock_now(HOUSE, "oil", "b"))
        house = with_entry(HOUSE, ("swap", "k", 9999, "a", "b"))
        self.assertEqual(stock_now(house, "oil", "b"), 10)
        self.assertIsNone(stock_now(house, "oil", "a"))
        self.assertEqual(stock_now(house, "rice", "a"), 4)

    def test_it_is_what_is_told_of_now(self):
        for seed in range(100):
            house = drawn_house(seed)
            for good, place in itertools.product(house[1], house[0]):
                if clashes(house, good):
                    self.assertRaises(NoFilling, stock_now, house, good, place)
                    self.assertRaises(NoFilling, stock_at, house, good, place, 9999)
                else:
                    paper = told(house, good, ("now", track_at(house, place, len(house[2]))))
                    self.assertEqual(stock_now(house, good, place), paper[1] if paper[0] == "known" else None)
                    self.assertEqual(stock_at(house, good, place, 9999), stock_now(house, good, place))


if __name__ == "__main__":
    unittest.main()
