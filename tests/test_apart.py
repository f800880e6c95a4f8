import unittest

from shelfcounts.apart import made_later, only_good, unswapped
from shelfcounts.errors import NoHouse
from shelfcounts.houses import house_of
from shelfcounts.pieces import pieces, ties
from tests.helper import drawn_house, looks

HOUSE = house_of(("a", "b", "c"), ("oil", "rice"), [
    ("come", "n", 0, "rice", "a", 4, 1),
    ("swap", "o", 2, "a", "b"),
    ("go", "p", 2, "rice", "a", 4),
    ("swap", "q", 3, "c", "b"),
    ("move", "r", 3, "oil", "b", "c", 2),
    ("some", "s", 3, "oil", "a", ""),
    ("some", "t", 3, "oil", "c", "b"),
    ("count", "u", 99, "oil", "b", 3, "ann"),
    ("look", "v", 99, "rice", "c"),
])


class ApartTest(unittest.TestCase):
    def test_one_good_and_the_swaps(self):
        entries = HOUSE[2]
        self.assertEqual(only_good(HOUSE, "oil"),
                         (("a", "b", "c"), ("oil",), tuple(entry for entry in entries if entry[1] in "oqrstu")))
        self.assertEqual(only_good(HOUSE, "rice"),
                         (("a", "b", "c"), ("rice",), tuple(entry for entry in entries if entry[1] in "nopqv")))

    def test_swaps_left_out(self):
        self.assertEqual(unswapped(HOUSE), (("a", "b", "c"), ("oil", "rice"), (
            ("come", "n", 0, "rice", "a", 4, 1),
            ("go", "p", 2, "rice", "b", 4),
            ("move", "r", 3, "oil", "c", "a", 2),
            ("some", "s", 3, "oil", "b", ""),
            ("some", "t", 3, "oil", "a", "c"),
            ("count", "u", 99, "oil", "c", 3, "ann"),
            ("look", "v", 99, "rice", "a"),
        )))

    def test_made_later(self):
        house = made_later(HOUSE, 7)
        self.assertEqual(house[:2], HOUSE[:2])
        self.assertEqual([entry[2] for entry in house[2]], [7, 9, 9, 10, 10, 10, 10, 106, 106])
        self.assertEqual([entry[:2] + entry[3:] for entry in house[2]], [entry[:2] + entry[3:] for entry in HOUSE[2]])
        self.assertEqual(made_later(HOUSE, 0), HOUSE)

    def test_the_last_moment(self):
        self.assertEqual(made_later(HOUSE, 9900)[2][-1][2], 9999)
        for many in (9901, 9999, 10 ** 60 - 1):
            with self.subTest(many=many):
                self.assertRaises(NoHouse, made_later, HOUSE, many)

    def test_a_house_without_entries(self):
        house = house_of(("a", "b"), ("oil", "rice"), ())
        for many in (0, 1, 9999, 10000, 10 ** 60 - 1):
            self.assertEqual(made_later(house, many), house)
        self.assertEqual(unswapped(house), house)
        self.assertEqual(only_good(house, "oil"), (("a", "b"), ("oil",), ()))

    def test_thirty_entries(self):
        house = house_of(("left",), ("oil",), looks(30))
        self.assertEqual(only_good(house, "oil"), house)
        self.assertEqual(unswapped(house), house)
        self.assertEqual(len(made_later(house, 9970)[2]), 30)
        self.assertRaises(NoHouse, made_later, house, 9971)

    def test_the_same_pieces_and_ties(self):
        for seed in range(200):
            house = drawn_house(seed)
            for good in house[1]:
                for other in (only_good(house, good), unswapped(house), made_later(house, 5)):
                    with self.subTest(seed=seed, good=good):
                        self.assertEqual(house_of(*other), other)
                        self.assertEqual(pieces(other, good), pieces(house, good))
                        self.assertEqual(ties(other, good), ties(house, good))


if __name__ == "__main__":
    unittest.main()
