"""What the document promises over the whole program."""

import itertools
import random
import unittest

from shelfcounts.books import below, book_behind, differences
from shelfcounts.clashes import clash_of, clashes, shows_clash
from shelfcounts.desk import Desk
from shelfcounts.errors import CountError, NoFilling
from shelfcounts.fewest import fewest, shows_fewest
from shelfcounts.fillings import filling, is_filling
from shelfcounts.hands import clearing_hands, hands_of
from shelfcounts.heaps import heaps, shut_rows
from shelfcounts.houses import with_entry, without_entry
from shelfcounts.keeper import Keeper
from shelfcounts.known import shows_free, shows_known, told
from shelfcounts.lots import cost_of, lots_behind, taken_by, worth_behind
from shelfcounts.paperreader import read_told
from shelfcounts.pieces import ties
from shelfcounts.reader import read_house
from shelfcounts.settling import causes, least_lot
from shelfcounts.stocks import stock_now
from shelfcounts.texts import entry_text, house_text, row_text
from shelfcounts.tracks import track_at
from shelfcounts.trees import holds
from tests.helper import (
    all_pieces, done_by, drawn_deeds, drawn_entry, drawn_house, fitting_house, reshaped, small_house, solvable)


def all_told(house):
    """What is told of a house and of each of its goods, places and entries."""
    found = [house, differences(house), below(house), causes(house), hands_of(house), clearing_hands(house)]
    at = len(house[2])
    for good in house[1]:
        found.append([ties(house, good), heaps(house, good), shut_rows(house, good), clash_of(house, good)])
        found.append([lots_behind(house, good, at), worth_behind(house, good, at)])
        found.append([book_behind(house, good, place, at) for place in house[0]])
        if not clashes(house, good):
            found.append([stock_now(house, good, place) for place in house[0]])
            found.append([told(house, good, row[0])[:2] for row in ties(house, good)
                          if told(house, good, row[0])[0] == "known"])
    found.append([(taken_by(house, entry[1]), cost_of(house, entry[1])) for entry in house[2] if entry[0] == "go"])
    return found


def keeper_of(places, goods, deeds):
    keeper = Keeper(places, goods)
    for deed in deeds:
        try:
            done_by(keeper, deed)
        except CountError:
            pass
    return keeper


def sides_of(members):
    """All rising lists of these pieces."""
    return [list(side) for many in range(len(members) + 1) for side in itertools.combinations(members, many)]


def answer_or_refusal(desk, row):
    try:
        return desk.say(row)
    except CountError as refusal:
        return type(refusal)


class WholeTest(unittest.TestCase):
    def test_all_hangs_on_which_entries_stand(self):
        for seed in range(25):
            places, goods, deeds = drawn_deeds(seed, 30, False)
            first = keeper_of(places, goods, deeds)
            draw = random.Random(seed)
            mixed = deeds + draw.choices(deeds, k=10)
            draw.shuffle(mixed)
            second = keeper_of(places, goods, mixed)
            # A keeper that is told what stands alone, and none of what was taken back or written down unlike.
            third = keeper_of(places, goods, [("enter", entry) for entry in reversed(first.house()[2])])
            for other in (second, third):
                self.assertEqual(all_told(other.house()), all_told(first.house()))
                self.assertEqual((other.clashing(), other.late()), (first.clashing(), first.late()))

    def test_an_entry_changes_no_sums_but_of_the_heaps_that_have_it(self):
        changed = 0
        for seed in range(120):
            house = drawn_house(seed)
            draw = random.Random(seed)
            words = ["come", "go", "count", "look"] + (["move", "some", "swap"] if len(house[0]) > 1 else [])
            if len(house[2]) < 30:
                entry = drawn_entry(draw, draw.choice(words), "zz", house[0], house[1])
                more = with_entry(house, entry)
                self.assertEqual(without_entry(more, "zz"), house)
                changed += self.same_but_of(more, house, "zz")
            for name in [entry[1] for entry in house[2]]:
                changed += self.same_but_of(house, without_entry(house, name), name)
        self.assertGreater(changed, 100)

    def same_but_of(self, house, without, name):
        """Rows of a house that don't have the entry are there without it, too; tells whether any has it."""
        found = False
        for good in house[1]:
            rows = shut_rows(house, good)
            for row in rows:
                if name not in row[0]:
                    self.assertIn(row, shut_rows(without, good))
            found = found or any(name in row[0] for row in rows)
        return found

    def test_closed_days_stay(self):
        for seed in range(40):
            places, goods, deeds = drawn_deeds(seed, 40)
            keeper = keeper_of(places, goods, deeds)
            closed = -1
            for many, row in enumerate(keeper.rows(), 1):
                if row[0] == "close":
                    closed = row[1]
                    shut = [entry for entry in keeper.then(many)[2] if entry[2] // 100 <= closed]
                    now = [entry for entry in keeper.house()[2] if entry[2] // 100 <= closed]
                    self.assertEqual(shut, now)

    def test_a_good_fits_or_pieces_show_that_it_does_not(self):
        fits = 0
        for seed in range(80):
            house = drawn_house(seed) if seed % 2 else fitting_house(seed)
            for good in house[1]:
                shown = clash_of(house, good)
                if shown is None:
                    fits += 1
                    self.assertTrue(is_filling(house, good, filling(house, good)))
                else:
                    self.assertTrue(shows_clash(house, good, shown))
                    self.assertRaises(NoFilling, filling, house, good)
        self.assertGreater(fits, 20)

    def test_of_each_tie_just_one_paper_is_told(self):
        for seed in range(60):
            house = fitting_house(seed)
            for good in house[1]:
                for tie, out, into in ties(house, good):
                    paper = told(house, good, tie)
                    if paper[0] == "known":
                        self.assertTrue(shows_known(house, good, tie, *paper[1:]))
                        self.assertFalse(shows_known(house, good, tie, paper[1] + 1, paper[2]))
                    else:
                        self.assertTrue(shows_free(house, good, tie, paper[1]))

    def test_whatever_paper_is_let_by_what_it_says_is_so(self):
        shown = clashed = 0
        for seed in range(60):
            house = small_house(seed)
            for good in house[1]:
                members = all_pieces(house, good)[:7]
                fitting = solvable(house, good)
                amounts = dict(zip([row[0] for row in ties(house, good)], filling(house, good))) if fitting else {}
                for side in sides_of(members):
                    if shows_clash(house, good, side):
                        self.assertFalse(fitting)
                        clashed += 1
                    for tie, amount in amounts.items():
                        shown += shows_known(house, good, tie, amount, side)
                        for other in (amount + 1, -amount, 0):
                            self.assertFalse(other != amount and shows_known(house, good, tie, other, side))
        self.assertGreater(min(shown, clashed), 50)

    def test_whatever_tree_holds_what_it_says_is_so(self):
        held = 0
        for seed in range(40):
            house = small_house(seed)
            paper = least_lot(house)
            wanted = 3 if paper[0] == "more" else len(paper[1])
            for tree in ([] if paper[-1] is None else [paper[-1], *reshaped(paper[-1])[:300]]):
                for many in range(3):
                    if holds(house, tree, many):
                        self.assertLess(many, wanted)
                        held += 1
        self.assertGreater(held, 20)

    def test_papers_told_at_a_desk_can_be_looked_through(self):
        known = free = 0
        for seed in range(40):
            house = fitting_house(seed)
            desk = Desk(house_text((house[0], house[1], ())))
            for entry in sorted(house[2]):
                desk.say("enter " + entry_text(entry))
            self.assertEqual(read_house(desk.say("house")), house)
            for good in house[1]:
                for place in house[0]:
                    paper = read_told(desk.say(f"now {good} {place}"))
                    tie = ("now", track_at(house, place, len(house[2])))
                    known += paper[0] == "known" and shows_known(house, good, tie, *paper[1:])
                    free += paper[0] == "free" and shows_free(house, good, tie, paper[1])
        self.assertGreater(min(known, free), 20)
        self.assertEqual(known + free, sum(len(house[0]) * len(house[1]) for house in map(fitting_house, range(40))))

    def test_a_desk_answers_by_what_stands_alone(self):
        for seed in range(20):
            places, goods, deeds = drawn_deeds(seed, 30, False)
            start = house_text((places, goods, ()))
            first, second = Desk(start), Desk(start)
            for deed in deeds:
                first.say(row_text(deed))
            for line in reversed(first.say("house").split("\n")[2:]):
                second.say("enter " + line)
                second.say("enter " + line)
            rows = ["house", "late", "clashing", "causes", "hands"]
            for good in goods:
                rows += [f"shut {good}", f"again {good}", f"worth {good} 300"]
                rows += [f"{word} {good} {place}{moment}" for place in places
                         for word, moment in (("now", ""), ("at", " 300"), ("book", " 300"))]
            for row in rows:
                self.assertEqual(answer_or_refusal(first, row), answer_or_refusal(second, row))

    def test_no_lesser_lot_and_no_fewer_places(self):
        for seed in range(30):
            house = small_house(seed)
            paper = least_lot(house)
            if paper[-1] is not None:
                self.assertTrue(holds(house, paper[-1], 2 if paper[0] == "more" else len(paper[1]) - 1))
            for good in house[1]:
                wanted = [row[0] for row in ties(house, good)]
                self.assertTrue(shows_fewest(house, good, wanted, fewest(house, good, wanted)))

    def test_worth_that_came_went_or_stands(self):
        for seed in range(40):
            places, goods, deeds = drawn_deeds(seed)
            house = keeper_of(places, goods, deeds).house()
            for good in goods:
                came = sum(entry[5] * entry[6] for entry in house[2] if entry[0] == "come" and entry[3] == good)
                went = sum(cost_of(house, entry[1]) for entry in house[2] if entry[0] == "go" and entry[3] == good)
                self.assertEqual(came, went + worth_behind(house, good, len(house[2])))


if __name__ == "__main__":
    unittest.main()
