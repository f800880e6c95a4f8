"""What the document promises over the whole program."""

import random
import unittest

from shelfcounts.books import below, book_behind, differences
from shelfcounts.clashes import clash_of, clashes, shows_clash
from shelfcounts.errors import CountError, NoFilling
from shelfcounts.fewest import fewest, shows_fewest
from shelfcounts.fillings import filling, is_filling
from shelfcounts.hands import clearing_hands, hands_of
from shelfcounts.heaps import heaps, shut_rows
from shelfcounts.houses import with_entry, without_entry
from shelfcounts.keeper import Keeper
from shelfcounts.known import shows_free, shows_known, told
from shelfcounts.lots import cost_of, lots_behind, taken_by, worth_behind
from shelfcounts.pieces import ties
from shelfcounts.settling import causes, least_lot
from shelfcounts.stocks import stock_now
from shelfcounts.trees import holds
from tests.helper import drawn_deeds, drawn_entry, drawn_house, fitting_house, small_house


def all_told(house):
    """What is told of a house and of each of its goods, places and entries."""
    found = [house, differences(house), below(house), causes(house), hands_of(house), clearing_hands(house)]
    at = len(house[2])
    for good in house[1]:
        found.append([ties(house, good), heaps(house, good), shut_rows(house, good), clash_of(house, good)])
        found.append([lots_behind(house, good, at), worth_behind(house, good, at)])
        found.append([book_behind(house, good, place, at) for place in house[0]])
        if not clashes(house, good):
            found.append([stock_now(house, good, place) for place in house[0]])
            found.append([told(house, good, row[0])[:2] for row in ties(house, good)
                          if told(house, good, row[0])[0] == "known"])
    found.append([(taken_by(house, entry[1]), cost_of(house, entry[1])) for entry in house[2] if entry[0] == "go"])
    return found


def keeper_of(places, goods, deeds):
    keeper = Keeper(places, goods)
    for deed in deeds:
        try:
            if deed[0] == "enter":
                keeper.enter(deed[1])
            elif deed[0] == "back":
                keeper.back(deed[1])
            else:
                keeper.close(*deed[1:])
        except CountError:
            pass
    return keeper


class WholeTest(unittest.TestCase):
    def test_all_hangs_on_which_entries_stand(self):
        for seed in range(25):
            places, goods, deeds = drawn_deeds(seed, 30, False)
            first = keeper_of(places, goods, deeds)
            draw = random.Random(seed)
            mixed = deeds + draw.choices(deeds, k=10)
            draw.shuffle(mixed)
            second = keeper_of(places, goods, mixed)
            # A keeper that is told what stands alone, and none of what was taken back or written down unlike.
            third = keeper_of(places, goods, [("enter", entry) for entry in reversed(first.house()[2])])
            for other in (second, third):
                self.assertEqual(all_told(other.house()), all_told(first.house()))
                self.assertEqual((other.clashing(), other.late()), (first.clashing(), first.late()))

    def test_an_entry_changes_no_sums_but_of_the_heaps_that_have_it(self):
        changed = 0
        for seed in range(120):
            house = drawn_house(seed)
            draw = random.Random(seed)
            words = ["come", "go", "count", "look"] + (["move", "some", "swap"] if len(house[0]) > 1 else [])
            if len(house[2]) < 30:
                entry = drawn_entry(draw, draw.choice(words), "zz", house[0], house[1])
                more = with_entry(house, entry)
                self.assertEqual(without_entry(more, "zz"), house)
                changed += self.same_but_of(more, house, "zz")
            for name in [entry[1] for entry in house[2]]:
                changed += self.same_but_of(house, without_entry(house, name), name)
        self.assertGreater(changed, 100)

    def same_but_of(self, house, without, name):
        """Rows of a house that don't have the entry are there without it, too; tells whether any has it."""
        found = False
        for good in house[1]:
            rows = shut_rows(house, good)
            for row in rows:
                if name not in row[0]:
                    self.assertIn(row, shut_rows(without, good))
            found = found or any(name in row[0] for row in rows)
        return found

    def test_closed_days_stay(self):
        for seed in range(40):
            places, goods, deeds = drawn_deeds(seed, 40)
            keeper = keeper_of(places, goods, deeds)
            closed = -1
            for many, row in enumerate(keeper.rows(), 1):
                if row[0] == "close":
                    closed = row[1]
                    shut = [entry for entry in keeper.then(many)[2] if entry[2] // 100 <= closed]
                    now = [entry for entry in keeper.house()[2] if entry[2] // 100 <= closed]
                    self.assertEqual(shut, now)

    def test_a_good_fits_or_pieces_show_that_it_does_not(self):
        fits = 0
        for seed in range(80):
            house = drawn_house(seed) if seed % 2 else fitting_house(seed)
            for good in house[1]:
                shown = clash_of(house, good)
                if shown is None:
                    fits += 1
                    self.assertTrue(is_filling(house, good, filling(house, good)))
                else:
                    self.assertTrue(shows_clash(house, good, shown))
                    self.assertRaises(NoFilling, filling, house, good)
        self.assertGreater(fits, 20)

    def test_of_each_tie_just_one_paper_is_told(self):
        for seed in range(60):
            house = fitting_house(seed)
            for good in house[1]:
                for tie, out, into in ties(house, good):
                    paper = told(house, good, tie)
                    if paper[0] == "known":
                        self.assertTrue(shows_known(house, good, tie, *paper[1:]))
                        self.assertFalse(shows_known(house, good, tie, paper[1] + 1, paper[2]))
                    else:
                        self.assertTrue(shows_free(house, good, tie, paper[1]))

    def test_no_lesser_lot_and_no_fewer_places(self):
        for seed in range(30):
            house = small_house(seed)
            paper = least_lot(house)
            if paper[-1] is not None:
                self.assertTrue(holds(house, paper[-1], 2 if paper[0] == "more" else len(paper[1]) - 1))
            for good in house[1]:
                wanted = [row[0] for row in ties(house, good)]
                self.assertTrue(shows_fewest(house, good, wanted, fewest(house, good, wanted)))

    def test_worth_that_came_went_or_stands(self):
        for seed in range(40):
            places, goods, deeds = drawn_deeds(seed)
            house = keeper_of(places, goods, deeds).house()
            for good in goods:
                came = sum(entry[5] * entry[6] for entry in house[2] if entry[0] == "come" and entry[3] == good)
                went = sum(cost_of(house, entry[1]) for entry in house[2] if entry[0] == "go" and entry[3] == good)
                self.assertEqual(came, went + worth_behind(house, good, len(house[2])))


if __name__ == "__main__":
    unittest.main()
