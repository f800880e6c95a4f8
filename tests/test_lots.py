import copy
import random
import unittest

from shelfcounts.errors import NoGo, NoName
from shelfcounts.houses import house_of, with_entry, without_entry
from shelfcounts.lots import cost_of, lots_behind, taken_by, worth_behind
from tests.helper import PLACES, drawn_entry, drawn_house, looks, whatever

HOUSE = house_of(("left", "right"), ("oil", "rice"), [
    ("come", "a", 1, "oil", "left", 5, 10),
    ("come", "b", 2, "oil", "right", 3, 0),
    ("come", "c", 2, "rice", "left", 9, 7),
    ("go", "d", 3, "oil", "right", 6),
    ("go", "e", 4, "oil", "left", 4),
    ("come", "f", 5, "oil", "left", 2, 4),
    ("go", "g", 6, "rice", "left", 1),
    ("go", "h", 7, "oil", "left", 1),
])


def drawn_trade(seed):
    """A house of many comes and goes in few moments, moved and swapped about, too."""
    draw = random.Random(seed)
    words = ["come", "come", "go", "go", "move", "swap", "count"]
    names = ["".join(draw.choice("abcdefgh") for letter in range(2)) for number in range(30)]
    entries = {name: drawn_entry(draw, draw.choice(words), name, PLACES[:2], ("oil", "rice")) for name in names}
    return house_of(PLACES[:2], ("oil", "rice"), list(entries.values()))


class Shelf:
    """Single things in a row, as they came, of one good: each go takes them one by one."""

    def __init__(self, house, good, at):
        self.things = []
        self.took = {}
        for entry in house[2][:at]:
            if entry[0] == "come" and entry[3] == good:
                self.things += [(entry[1], entry[6])] * entry[5]
            elif entry[0] == "go" and entry[3] == good:
                self.took[entry[1]] = (self.things[:entry[5]], entry[5] - len(self.things[:entry[5]]))
                self.things = self.things[entry[5]:]

    def lots(self):
        return [(name, self.things.count((name, price)), price) for name, price in dict.fromkeys(self.things)]

    def parts(self, name):
        things, bare = self.took[name]
        return ([(lot[0], things.count(lot)) for lot in dict.fromkeys(things)], bare)


class LotsTest(unittest.TestCase):
    def test_lots_behind_entries(self):
        expected = [
            [], [("a", 5, 10)], [("a", 5, 10), ("b", 3, 0)], [("a", 5, 10), ("b", 3, 0)], [("b", 2, 0)], [],
            [("f", 2, 4)], [("f", 2, 4)], [("f", 1, 4)],
        ]
        self.assertEqual([lots_behind(HOUSE, "oil", at) for at in range(9)], expected)
        self.assertEqual([worth_behind(HOUSE, "oil", at) for at in range(9)], [0, 50, 50, 50, 0, 0, 8, 8, 4])
        self.assertEqual([worth_behind(HOUSE, "rice", at) for at in range(9)], [0, 0, 0, 63, 63, 63, 63, 56, 56])

    def test_what_goes_took(self):
        self.assertEqual(taken_by(HOUSE, "d"), ([("a", 5), ("b", 1)], 0))
        self.assertEqual(taken_by(HOUSE, "e"), ([("b", 2)], 2))
        self.assertEqual(taken_by(HOUSE, "g"), ([("c", 1)], 0))
        # The bare two of e are not made up for by the lot f.
        self.assertEqual(taken_by(HOUSE, "h"), ([("f", 1)], 0))
        self.assertEqual([cost_of(HOUSE, name) for name in "degh"], [50, 0, 7, 4])

    def test_a_go_that_finds_nothing(self):
        house = house_of(("left",), ("oil", "rice"), [
            ("come", "a", 1, "rice", "left", 5, 10), ("go", "b", 2, "oil", "left", 4), ("come", "c", 3, "oil", "left", 4, 1),
        ])
        self.assertEqual(taken_by(house, "b"), ([], 4))
        self.assertEqual(cost_of(house, "b"), 0)
        self.assertEqual(lots_behind(house, "oil", 3), [("c", 4, 1)])

    def test_a_come_and_a_go_of_one_moment(self):
        early = house_of(("left",), ("oil",), [("come", "a", 5, "oil", "left", 3, 2), ("go", "b", 5, "oil", "left", 3)])
        late = house_of(("left",), ("oil",), [("come", "b", 5, "oil", "left", 3, 2), ("go", "a", 5, "oil", "left", 3)])
        self.assertEqual((taken_by(early, "b"), lots_behind(early, "oil", 2)), (([("a", 3)], 0), []))
        self.assertEqual((taken_by(late, "a"), lots_behind(late, "oil", 2)), (([], 3), [("b", 3, 2)]))
        # Of two lots of one moment the names tell which came first.
        both = with_entry(early, ("come", "aa", 5, "oil", "left", 1, 7))
        self.assertEqual(lots_behind(both, "oil", 2), [("a", 3, 2), ("aa", 1, 7)])
        self.assertEqual(lots_behind(both, "oil", 3), [("aa", 1, 7)])

    def test_other_entries_change_nothing(self):
        others = [
            ("move", "va", 1, "oil", "left", "right", 4), ("some", "vb", 2, "oil", "left", ""), ("swap", "vc", 3, "left", "right"),
            ("count", "vd", 3, "oil", "left", 0, "ann"), ("look", "ve", 3, "oil", "left"),
            ("some", "vf", 0, "oil", "right", "left"), ("count", "vg", 9, "oil", "right", 50, "ann"),
        ]
        house = HOUSE
        for entry in others:
            house = with_entry(house, entry)
        self.assertEqual(lots_behind(house, "oil", len(house[2])), lots_behind(HOUSE, "oil", 8))
        for name in "degh":
            self.assertEqual(taken_by(house, name), taken_by(HOUSE, name))

    def test_no_entries_and_prices_of_nought(self):
        empty = house_of(("left",), ("oil",), ())
        self.assertEqual((lots_behind(empty, "oil", 0), worth_behind(empty, "oil", 0)), ([], 0))
        looked = house_of(("left",), ("oil",), looks(30))
        self.assertEqual((lots_behind(looked, "oil", 30), worth_behind(looked, "oil", 30)), ([], 0))
        free = house_of(("left",), ("oil",), [("come", "a", 5, "oil", "left", 10 ** 9, 0), ("go", "b", 6, "oil", "left", 1)])
        self.assertEqual((worth_behind(free, "oil", 2), cost_of(free, "b")), (0, 0))
        self.assertEqual(lots_behind(free, "oil", 2), [("a", 10 ** 9 - 1, 0)])
        dear = house_of(("left",), ("oil",), [("come", "a", 5, "oil", "left", 10 ** 9, 10 ** 9)])
        self.assertEqual(worth_behind(dear, "oil", 1), 10 ** 18)

    def test_no_name_and_no_go(self):
        for ask in (taken_by, cost_of):
            for thing in whatever() + ["zz", "oil", "left", ("d",), ["d"]]:
                with self.subTest(thing=str(thing)[:60]):
                    self.assertRaises(NoName, ask, HOUSE, thing)
            for name in "abcf":
                self.assertRaises(NoGo, ask, HOUSE, name)
            mixed = house_of(("left", "right"), ("oil",), [
                ("move", "va", 1, "oil", "left", "right", 4), ("some", "vb", 2, "oil", "left", ""), ("look", "ve", 3, "oil", "left"),
                ("swap", "vc", 3, "left", "right"), ("count", "vd", 3, "oil", "left", 0, "ann"),
            ])
            for entry in mixed[2]:
                self.assertRaises(NoGo, ask, mixed, entry[1])

    def test_drawn_houses_thing_by_thing(self):
        whole = bare = 0
        for seed in range(160):
            house = drawn_house(seed) if seed % 4 == 0 else drawn_trade(seed)
            for good in house[1]:
                for at in range(len(house[2]) + 1):
                    shelf = Shelf(house, good, at)
                    self.assertEqual(lots_behind(house, good, at), shelf.lots())
                    self.assertEqual(worth_behind(house, good, at), sum(price for name, price in shelf.things))
                for name in shelf.took:
                    self.assertEqual(taken_by(house, name), shelf.parts(name))
                    self.assertEqual(cost_of(house, name), sum(price for lot, price in shelf.took[name][0]))
                    whole += shelf.took[name][1] == 0
                    bare += shelf.took[name][1] > 0
        self.assertGreater(min(whole, bare), 50)

    def test_worth_that_came_is_worth_that_went_or_stands(self):
        for seed in range(160):
            house = drawn_house(seed) if seed % 4 == 0 else drawn_trade(seed)
            for good in house[1]:
                for at in range(len(house[2]) + 1):
                    ahead = [entry for entry in house[2][:at] if entry[0] in ("come", "go") and entry[3] == good]
                    came = sum(entry[5] * entry[6] for entry in ahead if entry[0] == "come")
                    costs = sum(cost_of(house, entry[1]) for entry in ahead if entry[0] == "go")
                    self.assertEqual(worth_behind(house, good, at) + costs, came)

    def test_what_stands_behind_changes_nothing_ahead(self):
        for seed in range(60):
            house = drawn_house(seed) if seed % 4 == 0 else drawn_trade(seed)
            at = random.Random(seed).randint(0, len(house[2]))
            cut = (house[0], house[1], house[2][:at])
            for good in house[1]:
                self.assertEqual(lots_behind(cut, good, at), lots_behind(house, good, at))
            for entry in cut[2]:
                if entry[0] == "go":
                    self.assertEqual(taken_by(cut, entry[1]), taken_by(house, entry[1]))
                    self.assertEqual(cost_of(cut, entry[1]), cost_of(house, entry[1]))

    def test_what_is_handed_in_stays_and_what_is_told_is_the_askers(self):
        house = copy.deepcopy(HOUSE)
        lots, taken = lots_behind(house, "oil", 4), taken_by(house, "d")
        self.assertEqual([type(thing) for thing in (lots, taken, *taken)], [list, tuple, list, int])
        lots.clear()
        taken[0].append(("z", 1))
        self.assertEqual(lots_behind(house, "oil", 4), [("b", 2, 0)])
        self.assertEqual(taken_by(house, "d"), ([("a", 5), ("b", 1)], 0))
        self.assertEqual(house, HOUSE)
        self.assertEqual(taken_by(without_entry(house, "a"), "d"), ([("b", 3)], 3))


if __name__ == "__main__":
    unittest.main()
