import copy
import itertools
import unittest

from shelfcounts.errors import NoEntry, NoHouse, NoMove, NoName, TooMany, Twice
from shelfcounts.houses import entry_called, house_of, with_entry, with_turned, without_entry
from tests.helper import PLACES, drawn_house, looks, nested, whatever

COME = ("come", "ab", 5, "oil", "left", 3, 2)
MOVE = ("move", "ac", 5, "oil", "left", "right", 3)
SOME = ("some", "aa", 5, "oil", "right", "left")
SWAP = ("swap", "z", 5, "left", "right")
COUNT = ("count", "a", 5, "oil", "left", 3, "ann")
LOOK = ("look", "aab", 5, "rice", "left")
EARLY = ("count", "zz", 4, "rice", "right", 0, "bob")
LATE = ("swap", "b", 6, "right", "left")
ORDERED = (EARLY, SWAP, SOME, COME, MOVE, COUNT, LOOK, LATE)


class HouseOfTest(unittest.TestCase):
    def refused(self, places, goods, entries):
        with self.subTest(places=str(places)[:50], goods=str(goods)[:50], entries=str(entries)[:80]):
            self.assertRaises(NoHouse, house_of, places, goods, entries)

    def test_rising_names_and_entries_in_their_order(self):
        house = house_of(["right", "left"], ["rice", "oil"], list(reversed(ORDERED)))
        self.assertEqual(house, (("left", "right"), ("oil", "rice"), ORDERED))

    def test_any_order_makes_the_same(self):
        for entries in itertools.permutations(ORDERED[1:7]):
            house = house_of(("left", "right"), ("oil", "rice"), entries)
            self.assertEqual(house[2], ORDERED[1:7])

    def test_lists_and_tuples_make_the_same(self):
        house = house_of(["left", "right"], ["oil", "rice"], list(ORDERED))
        self.assertEqual(house_of(("left", "right"), ("oil", "rice"), ORDERED), house)
        for part in house:
            self.assertIs(type(part), tuple)

    def test_the_same_several_times_counts_once(self):
        house = house_of(["left", "right"] * 900, ("oil", "rice", "oil"), ORDERED * 3)
        self.assertEqual(house, (("left", "right"), ("oil", "rice"), ORDERED))
        self.assertEqual(len(house_of(["left"], ["oil"], looks(30) * 66)[2]), 30)
        self.assertEqual(house_of(PLACES * 2, ("a", "b", "c") * 2, [])[:2], (PLACES, ("a", "b", "c")))

    def test_how_many_places(self):
        self.assertEqual(house_of(("a",), ("oil",), ()), (("a",), ("oil",), ()))
        self.assertEqual(house_of("a b c d e f".split(), ("oil",), ()), (("a", "b", "c", "d", "e", "f"), ("oil",), ()))
        self.refused([], ("oil",), ())
        self.refused("a b c d e f g".split(), ("oil",), ())

    def test_how_many_goods(self):
        self.assertEqual(house_of(("a",), ("x", "w", "v"), ()), (("a",), ("v", "w", "x"), ()))
        self.refused(("a",), (), ())
        self.refused(("a",), ("w", "x", "y", "z"), ())

    def test_how_many_entries(self):
        self.assertEqual(house_of(["left"], ["oil"], []), (("left",), ("oil",), ()))
        self.assertEqual(house_of(["left"], ["oil"], looks(30)), (("left",), ("oil",), tuple(looks(30))))
        self.refused(["left"], ["oil"], looks(31))

    def test_unlike_entries_of_one_name(self):
        self.refused(("left",), ("oil",), [("look", "a", 1, "oil", "left"), ("look", "a", 2, "oil", "left")])
        self.refused(("left",), ("oil",), [("look", "a", 1, "oil", "left"), ("go", "a", 1, "oil", "left", 1)])
        self.refused(("left", "right"), ("oil",), [("swap", "a", 1, "left", "right"), ("swap", "a", 1, "right", "left")])

    def test_goods_and_places_that_are_not_there(self):
        self.refused(("left",), ("oil",), [("look", "a", 1, "rice", "left")])
        self.refused(("left",), ("oil",), [("look", "a", 1, "oil", "right")])
        self.refused(("left",), ("oil",), [("move", "a", 1, "oil", "left", "right", 1)])
        self.refused(("left",), ("oil",), [("move", "a", 1, "oil", "right", "left", 1)])
        self.refused(("left",), ("oil",), [("some", "a", 1, "oil", "left", "right")])
        self.refused(("left",), ("oil",), [("some", "a", 1, "oil", "right", "")])
        self.refused(("left",), ("oil",), [("swap", "a", 1, "left", "right")])
        self.refused(("left",), ("oil",), [("swap", "a", 1, "right", "left")])
        some = ("some", "a", 1, "oil", "left", "")
        self.assertEqual(house_of(("left",), ("oil",), [some])[2], (some,))

    def test_no_lists_or_tuples(self):
        for thing in whatever() + ["abc", "left", {"left": 1}]:
            if not isinstance(thing, (list, tuple)):
                self.refused(thing, ["oil"], [])
                self.refused(["left"], thing, [])
                self.refused(["left"], ["oil"], thing)

    def test_things_inside_that_are_none(self):
        for thing in whatever():
            self.refused(["left", thing], ["oil"], [])
            self.refused(["left"], (thing, "oil"), [])
            self.refused(["left"], ["oil"], [("look", "a", 1, "oil", "left"), thing])
            self.refused(["left"], ["oil"], (thing,))
        self.refused(["left"], ["oil"], [["look", "a", 1, "oil", "left"]])

    def test_truths_are_no_numbers_of_an_entry_that_is_there(self):
        look = ("look", "a", 1, "oil", "left")
        self.refused(["left"], ["oil"], [look, ("look", "a", True, "oil", "left")])
        self.refused(["left"], ["oil"], [("look", "a", True, "oil", "left"), look])

    def test_whatever_it_is(self):
        for thing in whatever():
            if thing not in (["a"], ("a",), ["a"] * 2000, ("a",) * 5, ("a",) * 2000):
                self.refused(thing, thing, thing)

    def test_what_is_handed_in_stays_and_is_copied(self):
        parts = (["right", "left", "left"], ["rice", "oil"], list(reversed(ORDERED)))
        kept = copy.deepcopy(parts)
        house = house_of(*parts)
        self.assertEqual(parts, kept)
        for part in parts:
            part.clear()
        self.assertEqual(house, (("left", "right"), ("oil", "rice"), ORDERED))

    def test_what_was_told_may_be_handed_in_again(self):
        for seed in range(50):
            house = drawn_house(seed)
            self.assertEqual(house_of(*house), house)


class OneEntryTest(unittest.TestCase):
    def setUp(self):
        self.house = house_of(("left", "right"), ("oil", "rice"), ORDERED)

    def test_an_entry_by_its_name(self):
        for entry in ORDERED:
            self.assertEqual(entry_called(self.house, entry[1]), entry)

    def test_no_entry_is_called_so(self):
        moves_nothing = house_of(("left",), ("oil",), ())
        for thing in whatever() + ["left", "oil", "ann", "come", "zzz", COME, ("ab",), ["ab"], nested("list", 59)]:
            for deed in (entry_called, without_entry, with_turned):
                with self.subTest(thing=str(thing)[:60], deed=deed.__name__):
                    self.assertRaises(NoName, deed, self.house, thing)
                    self.assertRaises(NoName, deed, moves_nothing, thing)

    def test_an_entry_more_comes_in_its_order(self):
        for at, entry in enumerate(ORDERED):
            fewer = (self.house[0], self.house[1], ORDERED[:at] + ORDERED[at + 1:])
            self.assertEqual(with_entry(fewer, entry), self.house)
            self.assertEqual(without_entry(self.house, entry[1]), fewer)

    def test_no_entry_of_the_house(self):
        wrong = whatever() + [
            list(COME), ("look", "new", 1, "salt", "left"), ("look", "new", 1, "oil", "yard"),
            ("swap", "new", 1, "left", "yard"), ("swap", "new", 1, "left", "left"),
            ("look", "new", True, "oil", "left"), ("come", "new", 1, "oil", "left", True, 1),
        ]
        for thing in wrong:
            with self.subTest(thing=str(thing)[:60]):
                self.assertRaises(NoEntry, with_entry, self.house, thing)

    def test_an_entry_of_this_name_is_there(self):
        self.assertRaises(Twice, with_entry, self.house, COME)
        self.assertRaises(Twice, with_entry, self.house, ("look", "ab", 9, "oil", "left"))

    def test_thirty_entries(self):
        most = house_of(["left"], ["oil"], looks(30))
        new = ("look", "new", 1, "oil", "left")
        self.assertRaises(TooMany, with_entry, most, new)
        less = without_entry(most, "aa")
        self.assertEqual(len(less[2]), 29)
        self.assertIn(new, with_entry(less, new)[2])
        self.assertEqual(len(with_entry(less, new)[2]), 30)

    def test_the_order_of_refusals(self):
        most = house_of(["left"], ["oil"], looks(30))
        self.assertRaises(NoEntry, with_entry, most, ("look", "aa", 1, "rice", "left"))
        self.assertRaises(NoEntry, with_entry, most, ("look", "new", 1, "oil", "right"))
        self.assertRaises(NoEntry, with_entry, self.house, ("look", "ab", 1, "oil", "yard"))
        self.assertRaises(Twice, with_entry, most, ("look", "aa", 1, "oil", "left"))
        self.assertRaises(Twice, with_entry, most, ("look", "aa", 0, "oil", "left"))

    def test_a_move_turned(self):
        turned = ("move", "ac", 5, "oil", "right", "left", 3)
        house = with_turned(self.house, "ac")
        self.assertEqual(house, (self.house[0], self.house[1], ORDERED[:4] + (turned,) + ORDERED[5:]))
        self.assertEqual(with_turned(house, "ac"), self.house)

    def test_only_moves_are_turned(self):
        for entry in ORDERED:
            if entry != MOVE:
                with self.subTest(entry=entry):
                    self.assertRaises(NoMove, with_turned, self.house, entry[1])

    def test_the_house_that_is_handed_in_stays(self):
        kept = copy.deepcopy(self.house)
        with_entry(self.house, ("look", "new", 1, "oil", "left"))
        without_entry(self.house, "ab")
        with_turned(self.house, "ac")
        self.assertEqual(self.house, kept)


if __name__ == "__main__":
    unittest.main()
