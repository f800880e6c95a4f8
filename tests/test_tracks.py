import copy
import unittest

from shelfcounts.entries import places_of
from shelfcounts.houses import house_of
from shelfcounts.tracks import place_of, touched, track_at
from tests.helper import drawn_house, looks

HOUSE = house_of(("a", "b", "c"), ("oil", "rice"), [
    ("look", "n", 1, "oil", "a"),
    ("swap", "o", 2, "a", "b"),
    ("come", "p", 2, "rice", "a", 4, 1),
    ("swap", "q", 3, "c", "b"),
    ("move", "r", 3, "oil", "b", "c", 2),
    ("some", "s", 3, "oil", "a", ""),
    ("some", "t", 3, "oil", "c", "b"),
    ("swap", "u", 4, "b", "a"),
    ("count", "v", 4, "oil", "a", 3, "ann"),
])


class TracksTest(unittest.TestCase):
    def test_tracks_behind_each_entry(self):
        told = ["abc", "abc", "bac", "bac", "bca", "bca", "bca", "bca", "cba", "cba"]
        for at, tracks in enumerate(told):
            for place, track in zip("abc", tracks):
                with self.subTest(at=at, place=place):
                    self.assertEqual(track_at(HOUSE, place, at), track)
                    self.assertEqual(place_of(HOUSE, track, at), place)

    def test_touched(self):
        told = [("a",), ("a", "b"), ("b",), ("a", "c"), ("a", "c"), ("b",), ("a", "c"), ("b", "c"), ("c",)]
        self.assertEqual([touched(HOUSE, number) for number in range(9)], told)

    def test_swaps_of_one_moment_go_by_their_names(self):
        house = house_of(("a", "b", "c"), ("oil",), [
            ("swap", "z", 1, "a", "b"), ("swap", "y", 1, "b", "c"), ("count", "x", 1, "oil", "a", 1, "ann"),
            ("go", "w", 1, "oil", "b", 1),
        ])
        self.assertEqual([track_at(house, place, 1) for place in "abc"], ["a", "c", "b"])
        self.assertEqual([track_at(house, place, 2) for place in "abc"], ["c", "a", "b"])
        self.assertEqual([touched(house, number) for number in range(4)], [("b", "c"), ("a", "c"), ("a",), ("c",)])

    def test_one_place_and_no_entries(self):
        house = house_of(("a",), ("oil",), ())
        self.assertEqual(place_of(house, "a", 0), "a")
        self.assertEqual(track_at(house, "a", 0), "a")

    def test_thirty_entries(self):
        house = house_of(("a", "b"), ("oil",), [("swap",) + look[1:3] + ("a", "b") for look in looks(30)])
        for at in range(31):
            self.assertEqual(track_at(house, "a", at), "ab"[at % 2])
            self.assertEqual(place_of(house, "a", at), "ab"[at % 2])

    def test_each_track_is_at_one_place_and_only_swaps_change_it(self):
        for seed in range(150):
            house = drawn_house(seed)
            there = {place: place for place in house[0]}
            for at in range(len(house[2]) + 1):
                for place in house[0]:
                    self.assertEqual(track_at(house, place, at), there[place])
                    self.assertEqual(place_of(house, there[place], at), place)
                if at < len(house[2]):
                    entry = house[2][at]
                    self.assertEqual(touched(house, at), tuple(sorted(there[place] for place in places_of(entry))))
                    if entry[0] == "swap":
                        there[entry[3]], there[entry[4]] = there[entry[4]], there[entry[3]]

    def test_the_house_stays(self):
        kept = copy.deepcopy(HOUSE)
        touched(HOUSE, 4)
        place_of(HOUSE, "a", 9)
        track_at(HOUSE, "a", 9)
        self.assertEqual(HOUSE, kept)


if __name__ == "__main__":
    unittest.main()
