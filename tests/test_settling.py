import copy
import itertools
import unittest

from shelfcounts.clashes import clashes
from shelfcounts.houses import house_of, with_entry, with_turned, without_entry
from shelfcounts.settling import causes, least_lot, settles
from shelfcounts.trees import holds
from tests.helper import drawn_house, fitting_house, looks, small_house, solvable

# What was moved was written down the wrong way about: three went from y to x.
TURNED = house_of(("x", "y"), ("oil",), [
    ("count", "a", 1, "oil", "x", 5, "ann"), ("count", "b", 1, "oil", "y", 5, "ann"),
    ("move", "c", 2, "oil", "x", "y", 3),
    ("count", "d", 3, "oil", "x", 8, "bob"), ("count", "e", 3, "oil", "y", 2, "bob"),
])
# Three counts of each of three tracks, all unlike.
MANY = house_of(("x", "y", "z"), ("oil",), [
    ("count", place + word, at, "oil", place, at, "ann") for place in "xyz" for at, word in enumerate("abc")
])


def fits(house):
    return all(solvable(house, good) for good in house[1])


def without(house, lot):
    for name in lot:
        house = without_entry(house, name)
    return house


def least_by_the_words(house):
    """The first of the least lots of at most two names that settle, None where more are wanted."""
    names = sorted(entry[1] for entry in house[2])
    for many in range(3):
        found = [lot for lot in itertools.combinations(names, many) if fits(without(house, lot))]
        if found:
            return min(found)
    return None


class SettlesTest(unittest.TestCase):
    def test_lots(self):
        for lot, right in (((), False), (("c",), False), (("a",), False), (("a", "b"), True), (("b", "a"), True),
                           (("a", "d"), False), (("a", "e"), True), (("a", "b", "c", "d", "e"), True)):
            self.assertIs(settles(TURNED, lot), right)
            self.assertIs(settles(TURNED, list(lot)), right)
        self.assertIs(settles(with_turned(TURNED, "c"), ()), True)
        self.assertIs(settles(house_of(("x",), ("oil",), ()), []), True)

    def test_all_goods_must_fit(self):
        house = house_of(("x",), ("oil", "rice"), [
            ("count", good + word, at, good, "x", at, "ann") for good in ("oil", "rice") for at, word in enumerate("ab")
        ])
        self.assertIs(settles(house, ("oila",)), False)
        self.assertIs(settles(house, ("ricea",)), False)
        self.assertIs(settles(house, ("oila", "riceb")), True)

    def test_drawn_houses(self):
        for seed in range(60):
            house = small_house(seed)
            names = [entry[1] for entry in house[2]]
            for lot in [(), *itertools.combinations(names, 1), names[:2], names[-3:], names]:
                self.assertIs(settles(house, lot), fits(without(house, lot)))

    def test_what_is_handed_in_stays(self):
        house, lot = copy.deepcopy(TURNED), ["b", "a"]
        settles(house, lot)
        self.assertEqual((house, lot), (TURNED, ["b", "a"]))


class LeastLotTest(unittest.TestCase):
    def test_nothing_is_wanted(self):
        looked = house_of(("left",), ("oil",), looks(30))
        for house in (house_of(("x",), ("oil",), ()), with_turned(TURNED, "c"), looked):
            self.assertEqual(least_lot(house), ("settles", (), None))

    def test_one(self):
        house = house_of(("x",), ("oil",), [
            ("count", "d", 1, "oil", "x", 1, "ann"), ("come", "c", 2, "oil", "x", 1, 1), ("look", "a", 2, "oil", "x"),
            ("count", "b", 3, "oil", "x", 1, "ann"),
        ])
        self.assertEqual(least_lot(house), ("settles", ("b",), ("oil", ("b", "c", "d"), ())))

    def test_a_swap(self):
        house = house_of(("x", "y"), ("oil",), [
            ("count", "b", 1, "oil", "x", 1, "ann"), ("count", "c", 1, "oil", "y", 2, "ann"),
            ("swap", "a", 2, "x", "y"),
            ("count", "d", 3, "oil", "x", 1, "ann"), ("count", "e", 3, "oil", "y", 2, "ann"),
        ])
        word, lot, tree = least_lot(house)
        self.assertEqual((word, lot), ("settles", ("a",)))
        self.assertIs(holds(house, tree, 0), True)

    def test_two(self):
        word, lot, tree = least_lot(TURNED)
        self.assertEqual((word, lot), ("settles", ("a", "b")))
        self.assertIs(holds(TURNED, tree, 1), True)
        self.assertIs(holds(TURNED, tree, 0), False)

    def test_more(self):
        word, tree = least_lot(MANY)
        self.assertEqual(word, "more")
        self.assertIs(holds(MANY, tree, 2), True)
        house = MANY
        for name in ("xa", "xb", "ya", "yb"):
            house = without_entry(house, name)
        self.assertEqual(least_lot(house)[:2], ("settles", ("za", "zb")))
        self.assertEqual(least_lot(without_entry(house, "zc"))[:2], ("settles", ("za",)))

    def test_twelve_entries_that_hang_together(self):
        entries = [("count", "a", 0, "oil", "x", 0, "ann"), ("count", "l", 11, "oil", "x", 99, "ann")]
        entries += [("come", name, at + 1, "oil", "x", 1, 1) for at, name in enumerate("bcdefghijk")]
        house = house_of(("x",), ("oil",), entries)
        self.assertEqual(least_lot(house), ("settles", ("a",), ("oil", tuple("abcdefghijkl"), ())))
        entries = [("count", good + word, at, good, "x", at, "ann")
                   for good in ("a", "b", "c") for at, word in enumerate("xy")]
        entries += [("come", good + word, 1, good, "x", 1, 1) for good in ("a", "b", "c") for word in "pq"]
        house = house_of(("x",), ("a", "b", "c"), entries)
        self.assertEqual(len(house[2]), 12)
        word, tree = least_lot(house)
        self.assertEqual(word, "more")
        self.assertIs(holds(house, tree, 2), True)

    def test_drawn_houses(self):
        found = {}
        for seed in range(120):
            house = small_house(seed)
            with self.subTest(seed=seed):
                told = least_lot(house)
                lot = least_by_the_words(house)
                self.assertIs(type(told), tuple)
                if lot is None:
                    self.assertEqual((told[0], len(told)), ("more", 2))
                    self.assertIs(holds(house, told[1], 2), True)
                elif lot == ():
                    self.assertEqual(told, ("settles", (), None))
                else:
                    self.assertEqual((*told[:2], len(told)), ("settles", lot, 3))
                    self.assertIs(holds(house, told[2], len(lot) - 1), True)
                found[lot is None, len(lot or ())] = found.get((lot is None, len(lot or ())), 0) + 1
        self.assertEqual(sorted(found), [(False, 0), (False, 1), (False, 2), (True, 0)])
        self.assertGreater(min(found.values()), 8)

    def test_what_is_handed_in_and_told(self):
        for kept in (TURNED, MANY):
            house = copy.deepcopy(kept)
            first = least_lot(house)
            self.assertEqual(least_lot(house), first)
            self.assertEqual(house, kept)


class CausesTest(unittest.TestCase):
    def test_a_move_that_settles_when_turned(self):
        self.assertEqual(causes(TURNED), [("turn", "c")])

    def test_entries_that_settle_when_taken_back(self):
        house = house_of(("x", "y"), ("oil",), [
            ("count", "b", 1, "oil", "x", 1, "ann"), ("come", "c", 2, "oil", "x", 1, 1), ("look", "a", 2, "oil", "x"),
            ("count", "d", 3, "oil", "x", 1, "ann"), ("move", "e", 4, "oil", "x", "y", 1),
        ])
        self.assertEqual(causes(house), [("back", "b"), ("back", "c"), ("back", "d")])
        house = house_of(("x", "y"), ("oil",), [
            ("count", "b", 1, "oil", "x", 1, "ann"), ("move", "c", 2, "oil", "y", "x", 1),
            ("count", "d", 3, "oil", "x", 0, "ann"),
        ])
        self.assertEqual(causes(house), [("back", "b"), ("back", "d"), ("turn", "c")])
        house = with_entry(without_entry(house, "d"), ("count", "a", 3, "oil", "x", 1, "ann"))
        self.assertEqual(causes(house), [("back", "a"), ("back", "b"), ("back", "c")])

    def test_there_are_none_where_nothing_clashes(self):
        self.assertEqual(causes(with_turned(TURNED, "c")), [])
        self.assertEqual(causes(house_of(("x",), ("oil",), ())), [])
        self.assertEqual(causes(house_of(("left",), ("oil",), looks(30))), [])

    def test_there_are_none_where_more_is_wanted(self):
        self.assertEqual(causes(MANY), [])

    def test_drawn_houses(self):
        back = none = 0
        for seed in range(200):
            house = small_house(seed) if seed % 2 else drawn_house(seed)
            expected = []
            if not fits(house):
                names = sorted(entry[1] for entry in house[2])
                moves = [entry[1] for entry in house[2] if entry[0] == "move"]
                expected += [("back", name) for name in names if fits(without_entry(house, name))]
                expected += sorted(("turn", name) for name in moves if fits(with_turned(house, name)))
            else:
                none += 1
            told = causes(house)
            self.assertEqual(told, expected)
            self.assertEqual(told, sorted(told))
            back += told != []
        self.assertGreater(min(back, none), 20)

    def test_moves_written_down_the_wrong_way_about(self):
        found = 0
        for seed in range(100):
            house = fitting_house(seed)
            for name in [entry[1] for entry in house[2] if entry[0] == "move"]:
                wrong = with_turned(house, name)
                self.assertIs(("turn", name) in causes(wrong), not fits(wrong))
                found += not fits(wrong)
        self.assertGreater(found, 20)

    def test_all_goods_must_fit(self):
        house = house_of(("x",), ("oil", "rice"), [
            ("count", good + word, at, good, "x", at, "ann") for good in ("oil", "rice") for at, word in enumerate("ab")
        ])
        self.assertTrue(clashes(house, "oil") and clashes(house, "rice"))
        self.assertEqual(causes(house), [])
        self.assertEqual(causes(without_entry(house, "oila")), [("back", "ricea"), ("back", "riceb")])

    def test_what_is_handed_in_and_told(self):
        house = copy.deepcopy(TURNED)
        first = causes(house)
        self.assertIs(type(first), list)
        first.clear()
        self.assertEqual(causes(house), [("turn", "c")])
        self.assertEqual(house, TURNED)


if __name__ == "__main__":
    unittest.main()
