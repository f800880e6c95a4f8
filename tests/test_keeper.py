import copy
import unittest

from shelfcounts.clashes import clashes
from shelfcounts.errors import Closed, CountError, NoDay, NoEntry, NoHouse, NoName, NoThen, TooMany
from shelfcounts.heaps import shut_rows
from shelfcounts.houses import house_of
from shelfcounts.keeper import Keeper
from shelfcounts.states import house_now, late_ones, start
from tests.helper import done_by, drawn_deeds, drawn_house, looks, state_behind, whatever

PLACES = ("left", "right")
GOODS = ("oil", "rice")
COUNT = ("count", "a", 100, "oil", "left", 5, "ann")
COME = ("come", "b", 200, "oil", "left", 3, 10)
AGAIN = ("count", "c", 300, "oil", "left", 7, "bob")
LOOK = ("look", "d", 250, "oil", "left")
SWAP = ("swap", "e", 260, "left", "right")


def rows_of(house):
    return {(good, *row) for good in house[1] for row in shut_rows(house, good)}


def all_told(keeper):
    """All that a keeper tells."""
    many = len(keeper.rows())
    return copy.deepcopy([keeper.house(), keeper.late(), keeper.rows(), keeper.clashing(),
                          [keeper.then(number) for number in range(many + 1)]])


class KeeperTest(unittest.TestCase):
    def setUp(self):
        self.keeper = Keeper(PLACES, GOODS)

    def test_a_new_one(self):
        keeper = Keeper(["right", "left", "left"], ("rice", "oil"))
        self.assertEqual(all_told(keeper), [(PLACES, GOODS, ()), [], [], [], [(PLACES, GOODS, ())]])

    def test_refused_as_a_house_is(self):
        for thing in whatever():
            self.assertRaises(NoHouse, Keeper, [thing], GOODS)
            self.assertRaises(NoHouse, Keeper, PLACES, (thing,))
            if not isinstance(thing, (list, tuple)):
                self.assertRaises(NoHouse, Keeper, thing, GOODS)
                self.assertRaises(NoHouse, Keeper, PLACES, thing)
        for places, goods in (((), GOODS), (PLACES, []), (list("abcdefg"), GOODS), (PLACES, list("abcd"))):
            self.assertRaises(NoHouse, Keeper, places, goods)

    def test_deeds_tell_which_rows_went_and_came(self):
        keeper = self.keeper
        self.assertEqual(keeper.enter(COUNT), ([], []))
        self.assertEqual(keeper.enter(AGAIN), ([], [("oil", ("a", "c"), 2)]))
        self.assertEqual(keeper.clashing(), ["oil"])
        self.assertEqual(keeper.enter(COME), ([("oil", ("a", "c"), 2)], [("oil", ("a", "b", "c"), -1)]))
        self.assertEqual(keeper.enter(COME), ([], []))
        self.assertEqual(keeper.enter(LOOK), ([], []))
        self.assertEqual(keeper.enter(SWAP), ([("oil", ("a", "b", "c"), -1)], []))
        self.assertEqual(keeper.clashing(), [])
        self.assertEqual(keeper.back("e"), ([], [("oil", ("a", "b", "c"), -1)]))
        self.assertEqual(keeper.close(2, "up"), ([], []))
        late = ("go", "g", 150, "oil", "left", 1)
        # It stands at the moment of the count c, so ahead of it.
        self.assertEqual(keeper.enter(late), ([("oil", ("a", "b", "c"), -1)], [("oil", ("a", "b", "c", "g"), 0)]))
        self.assertEqual(keeper.late(), [("g", 150, 300)])
        self.assertEqual(keeper.house(), house_of(PLACES, GOODS, [COUNT, COME, LOOK, ("go", "g", 300, "oil", "left", 1), AGAIN]))

    def test_a_late_one_of_the_moment_of_a_count_is_told_by_it(self):
        for entry in (COUNT, AGAIN):
            self.keeper.enter(entry)
        self.keeper.close(2, "up")
        told = self.keeper.enter(("come", "z", 100, "oil", "left", 2, 1))
        self.assertEqual(told, ([("oil", ("a", "c"), 2)], [("oil", ("a", "c", "z"), 0)]))
        self.assertEqual(self.keeper.clashing(), [])

    def test_rows_of_several_goods_rise(self):
        house = house_of(("x", "y"), ("corn", "oil", "rice"), [
            ("count", good[:1] + place + word, at, good, place, at, "ann")
            for good in ("corn", "oil", "rice") for place in ("x", "y") for at, word in enumerate("bc", 1)
        ] + [("look", "zz", 1, "oil", "x")])
        keeper = Keeper(house[0], house[1])
        for entry in house[2]:
            keeper.enter(entry)
        self.assertEqual(keeper.clashing(), ["corn", "oil", "rice"])
        went, came = keeper.enter(("swap", "m", 2, "x", "y"))
        self.assertEqual(went, sorted(rows_of(house)))
        self.assertEqual(len(went), 6)
        self.assertEqual(came, sorted(rows_of(keeper.house())))
        self.assertEqual(len(came), 6)

    def test_rows_that_were_done(self):
        deeds = [("enter", COUNT), ("enter", COUNT), ("back", "z"), ("back", "z"), ("close", 0, "up"), ("enter", COME),
                 ("close", 5, "refuse")]
        for deed in deeds:
            done_by(self.keeper, deed)
        self.assertEqual(self.keeper.rows(), deeds)
        for refused in (("enter", ("look", "q", 1, "oil", "left")), ("enter", None), ("back", 7), ("close", 5, "up"),
                        ("close", 6, "down"), ("back", "a")):
            self.assertRaises(CountError, done_by, self.keeper, refused)
        self.assertEqual(self.keeper.rows(), deeds)
        self.assertEqual(self.keeper.then(7), self.keeper.house())

    def test_houses_behind_rows(self):
        for entry in (COUNT, COME, COME, LOOK):
            self.keeper.enter(entry)
        self.keeper.back("b")
        entries = [(), (COUNT,), (COUNT, COME), (COUNT, COME), (COUNT, COME, LOOK), (COUNT, LOOK)]
        for many, expected in enumerate(entries):
            self.assertEqual(self.keeper.then(many), (PLACES, GOODS, expected))

    def test_no_number_of_rows(self):
        for many in range(3):
            self.assertEqual(self.keeper.then(0), (PLACES, GOODS, ()))
            for thing in [many + 1, -1, True, False, None, "0", (0,), [0], {}] + whatever():
                if type(thing) is not int or not 0 <= thing <= many:
                    with self.subTest(thing=str(thing)[:60]):
                        self.assertRaises(NoThen, self.keeper.then, thing)
            self.keeper.enter((COUNT, COME, LOOK)[many])

    def test_what_is_refused_changes_nothing(self):
        for entry in (COUNT, COME, AGAIN):
            self.keeper.enter(entry)
        self.keeper.close(1, "up")
        kept = all_told(self.keeper)
        for thing in whatever() + [("look", "q", 1, "salt", "left"), ("look", "q", True, "oil", "left"), list(LOOK)]:
            self.assertRaises(NoEntry, self.keeper.enter, thing)
            self.assertRaises(NoName, self.keeper.back, thing)
            self.assertRaises(NoDay, self.keeper.close, 5, thing)
            if type(thing) is not int or thing in (0, 1, -1) or thing > 99 or thing < 0:
                self.assertRaises(NoDay, self.keeper.close, thing, "up")
        self.assertRaises(Closed, self.keeper.enter, ("look", "q", 150, "oil", "left"))
        self.assertRaises(Closed, self.keeper.back, "a")
        self.assertRaises(NoThen, self.keeper.then, 5)
        self.assertEqual(all_told(self.keeper), kept)

    def test_too_many(self):
        keeper = Keeper(["left"], ["oil"])
        for entry in looks(30):
            keeper.enter(entry)
        kept = all_told(keeper)
        self.assertRaises(TooMany, keeper.enter, ("look", "zz", 1, "oil", "left"))
        self.assertEqual(all_told(keeper), kept)
        self.assertEqual(keeper.enter(looks(30)[3]), ([], []))
        self.assertEqual(len(keeper.house()[2]), 30)

    def test_drawn_deeds(self):
        changed = 0
        for seed in range(60):
            places, goods, deeds = drawn_deeds(seed)
            keeper, states, done = Keeper(places, goods), [start(places, goods)], []
            for deed in deeds:
                ahead = rows_of(house_now(states[-1]))
                try:
                    states.append(state_behind(states[-1], deed))
                except CountError as refusal:
                    self.assertRaises(type(refusal), done_by, keeper, deed)
                    continue
                done.append(deed)
                behind = rows_of(house_now(states[-1]))
                self.assertEqual(done_by(keeper, deed), (sorted(ahead - behind), sorted(behind - ahead)))
                changed += ahead != behind
            self.assertEqual(keeper.rows(), done)
            self.assertEqual([keeper.then(many) for many in range(len(done) + 1)], [house_now(state) for state in states])
            self.assertEqual(keeper.house(), house_now(states[-1]))
            self.assertEqual(keeper.late(), late_ones(states[-1]))
            self.assertEqual(keeper.clashing(), [good for good in goods if clashes(keeper.house(), good)])
        self.assertGreater(changed, 40)

    def test_which_rows_a_deed_changes(self):
        came_by = went_by = looked = 0
        for seed in range(80):
            house = drawn_house(seed)
            keeper = Keeper(house[0], house[1])
            for entry in sorted(house[2], key=lambda entry: entry[1][::-1]):
                went, came = keeper.enter(entry)
                self.assertTrue(all(entry[1] in names for good, names, total in came))
                came_by += len(came)
                if entry[0] == "look":
                    self.assertEqual((went, came), ([], []))
                    looked += 1
            self.assertEqual(keeper.close(0, "up"), ([], []))
            for entry in house[2]:
                if entry[2] >= 100:
                    went, came = keeper.back(entry[1])
                    self.assertTrue(all(entry[1] in names for good, names, total in went))
                    went_by += len(went)
                    if entry[0] == "look":
                        self.assertEqual((went, came), ([], []))
            self.assertEqual(keeper.close(99, "refuse"), ([], []))
        self.assertGreater(min(came_by, went_by, looked), 50)

    def test_what_is_told_is_the_askers_own(self):
        places, goods = list(PLACES), list(GOODS)
        keeper = Keeper(places, goods)
        places.clear()
        goods.clear()
        keeper.enter(COUNT)
        told = keeper.enter(AGAIN)
        self.assertEqual([type(thing) for thing in (told, *told)], [tuple, list, list])
        keeper.close(2, "up")
        keeper.enter(COME)
        kept = all_told(keeper)
        for tell in (keeper.late, keeper.rows, keeper.clashing):
            first = tell()
            self.assertIs(type(first), list)
            self.assertNotEqual(first, [])
            first.clear()
        told[1].clear()
        self.assertEqual(all_told(keeper), kept)
        rows = keeper.rows()
        keeper.enter(("look", "q", 900, "oil", "left"))
        self.assertEqual(rows, kept[2])

    def test_two_side_by_side(self):
        for seed in range(20):
            places, goods, deeds = drawn_deeds(seed)
            alone, one, other = Keeper(places, goods), Keeper(places, goods), Keeper(places, goods)
            for deed in deeds:
                for keeper in (alone, one):
                    try:
                        done_by(keeper, deed)
                    except CountError:
                        pass
                try:
                    other.back(deed[1][1] if deed[0] == "enter" else "zz")
                    other.close(len(other.rows()), "up")
                except CountError:
                    pass
            self.assertEqual(all_told(one), all_told(alone))


if __name__ == "__main__":
    unittest.main()
