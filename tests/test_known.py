import copy
import itertools
import unittest

from shelfcounts.clashes import clashes
from shelfcounts.errors import NoFilling, NoTie
from shelfcounts.fillings import filling, is_filling
from shelfcounts.houses import house_of, with_entry
from shelfcounts.known import shows_free, shows_known, told
from shelfcounts.pieces import pieces, ties
from shelfcounts.rings import is_ring, pushed
from tests.helper import (
    MIXED, Walk, drawn_house, fitting_house, looks, null_vectors, of_other_kinds, reshaped, whatever,
)

EMPTY = house_of(("a",), ("oil",), ())
# Of oil at a all is known: three at first, two less in the some d, five now; at b what was there is free.
HOUSE = with_entry(
    with_entry(MIXED, ("count", "h", 1, "rice", "b", 1, "ann")),
    ("look", "i", 2, "rice", "b"),
)
CLASHING = with_entry(HOUSE, ("count", "j", 5, "oil", "a", 6, "ann"))


def known_by_the_words(house, good, tie, amount, side):
    """Of a tie of the good, a whole number and a list of pieces of the good, what the document says."""
    if side != sorted(set(side)):
        return False
    inside = {row[0]: sum(end in side for end in row[1:]) for row in ties(house, good)}
    if inside[tie] != 1 or any(inside[other] == 1 for other in inside if other != tie):
        return False
    total = sum(row[4] for row in pieces(house, good) if row[0] in side)
    into = {row[0]: row[2] for row in ties(house, good)}[tie]
    return amount == total if into in side else amount + total == 0


class ToldTest(unittest.TestCase):
    def test_what_is_known(self):
        self.assertEqual(told(HOUSE, "oil", ("begin", "a")), ("known", 3, [("a", 0)]))
        self.assertEqual(told(HOUSE, "oil", ("some", "d")), ("known", -2, [("a", 1)]))
        self.assertEqual(told(HOUSE, "oil", ("now", "a")), ("known", 5, [("a", 2)]))
        word, amount, side = told(HOUSE, "rice", ("look", "i"))
        self.assertEqual((word, amount), ("known", 1))
        self.assertIn(side, ([("b", 1)], [("b", 2)]))

    def test_what_is_free(self):
        for tie in (("begin", "b"), ("look", "e"), ("now", "b")):
            word, ring = told(HOUSE, "oil", tie)
            self.assertEqual(word, "free")
            self.assertEqual({step[0] for step in ring}, {("begin", "b"), ("look", "e"), ("now", "b")})
            self.assertIs(shows_free(HOUSE, "oil", tie, ring), True)

    def test_a_some_that_is_free(self):
        house = house_of(("a", "b"), ("oil",), [("some", "c", 1, "oil", "a", "b")])
        word, ring = told(house, "oil", ("some", "c"))
        self.assertEqual(word, "free")
        self.assertIs(shows_free(house, "oil", ("some", "c"), ring), True)

    def test_a_house_without_entries(self):
        for tie in (("begin", "a"), ("now", "a")):
            word, ring = told(EMPTY, "oil", tie)
            self.assertEqual(word, "free")
            self.assertEqual({step[0] for step in ring}, {("begin", "a"), ("now", "a")})
            self.assertIs(is_ring(EMPTY, "oil", ring), True)

    def test_looks_one_behind_the_other(self):
        entries = looks(30)
        house = house_of(("left",), ("oil",), entries)
        for tie, out, into in ties(house, "oil"):
            word, ring = told(house, "oil", tie)
            self.assertEqual((word, len(ring)), ("free", 32))
            self.assertIs(shows_free(house, "oil", tie, ring), True)
        entries[14] = ("count", "zz", 14, "oil", "left", 6, "ann")
        house = house_of(("left",), ("oil",), entries)
        for tie, out, into in ties(house, "oil"):
            word, amount, side = told(house, "oil", tie)
            self.assertEqual((word, amount), ("known", 6))
            self.assertIs(shows_known(house, "oil", tie, 6, side), True)

    def test_a_known_tie_inside_a_shut_heap(self):
        house = house_of(("a", "b"), ("oil",), [
            ("count", "c", 1, "oil", "a", 3, "ann"), ("count", "d", 1, "oil", "b", 4, "ann"),
            ("some", "e", 2, "oil", "a", "b"),
            ("count", "f", 3, "oil", "a", 2, "ann"), ("count", "g", 3, "oil", "b", 5, "ann"),
        ])
        word, amount, side = told(house, "oil", ("some", "e"))
        self.assertEqual((word, amount), ("known", 1))
        # Either side shows it, also with a heap that is shut.
        self.assertIs(shows_known(house, "oil", ("some", "e"), 1, [("a", 1)]), True)
        self.assertIs(shows_known(house, "oil", ("some", "e"), 1, [("b", 1)]), True)
        self.assertIs(shows_known(house, "oil", ("begin", "a"), 3, [("a", 0), ("a", 1), ("b", 1)]), True)
        self.assertIs(shows_known(house, "oil", ("begin", "a"), 3, [("a", 0), ("a", 1)]), False)

    def test_refusals_each_by_its_own_class(self):
        for good, tie, refusal in (
            ("oil", ("begin", "z"), NoTie), ("oil", ("look", "d"), NoTie), ("oil", ("some", "c"), NoTie),
            ("oil", ("look", "i"), NoTie), ("oil", ("begin", "a"), NoFilling), ("oil", ("begin", "b"), NoFilling),
            ("oil", ("now", "b"), NoFilling), ("oil", ("look", "e"), NoFilling), ("oil", ("some", "d"), NoFilling),
            ("rice", ("some", "d"), NoTie),
        ):
            with self.assertRaises(refusal) as caught:
                told(CLASHING, good, tie)
            self.assertIs(type(caught.exception), refusal)
        self.assertEqual(told(CLASHING, "rice", ("begin", "b"))[:2], ("known", 1))

    def test_whatever_is_no_tie(self):
        tie = ("begin", "a")
        for thing in whatever() + of_other_kinds(tie) + reshaped(tie):
            for house in (HOUSE, CLASHING, EMPTY):
                self.assertRaises(NoTie, told, house, "oil", thing)

    def test_each_tie_is_known_or_free(self):
        found = {}
        for seed in range(200):
            house = fitting_house(seed)
            for good in house[1]:
                free = null_vectors(house, good)
                amounts = Walk(house, good, seed, True).amounts
                for at, (tie, out, into) in enumerate(ties(house, good)):
                    with self.subTest(seed=seed, good=good, tie=tie):
                        paper = told(house, good, tie)
                        known = all(vector[at] == 0 for vector in free)
                        found[tie[0], known] = found.get((tie[0], known), 0) + 1
                        if known:
                            word, amount, side = paper
                            self.assertEqual((word, amount), ("known", amounts[tie]))
                            self.assertIs(type(side), list)
                            self.assertIs(shows_known(house, good, tie, amount, side), True)
                        else:
                            word, ring = paper
                            self.assertEqual(word, "free")
                            self.assertIs(type(ring), list)
                            self.assertIs(shows_free(house, good, tie, ring), True)
        self.assertEqual(sorted(found), sorted(itertools.product(("begin", "look", "now", "some"), (False, True))))
        self.assertGreater(min(found.values()), 30)

    def test_goods_that_happen_to_fit_or_clash(self):
        for seed in range(200):
            house = drawn_house(seed)
            for good in house[1]:
                for tie, out, into in ties(house, good):
                    if clashes(house, good):
                        self.assertRaises(NoFilling, told, house, good, tie)
                    else:
                        paper = told(house, good, tie)
                        if paper[0] == "known":
                            self.assertIs(shows_known(house, good, tie, *paper[1:]), True)
                        else:
                            self.assertIs(shows_free(house, good, tie, *paper[1:]), True)

    def test_a_known_one_has_its_amount_in_all_fillings_and_a_free_one_each_amount_in_some(self):
        for seed in range(60):
            house = fitting_house(seed)
            for good in house[1]:
                order = [row[0] for row in ties(house, good)]
                amounts = filling(house, good)
                papers = [told(house, good, tie) for tie in order]
                for at, paper in enumerate(papers):
                    if paper[0] == "free":
                        many = 77 - amounts[at] if dict(paper[1])[order[at]] else amounts[at] - 77
                        amounts = pushed(house, good, amounts, paper[1], many)
                        self.assertEqual(amounts[at], 77)
                        self.assertIs(is_filling(house, good, amounts), True)
                for at, paper in enumerate(papers):
                    if paper[0] == "known":
                        self.assertEqual(amounts[at], paper[1])

    def test_what_is_handed_in_and_told(self):
        house = copy.deepcopy(HOUSE)
        for tie, out, into in ties(house, "oil"):
            first = told(house, "oil", tie)
            self.assertIs(type(first), tuple)
            kept = copy.deepcopy(first)
            first[-1].clear()
            self.assertEqual(told(house, "oil", tie), kept)
        self.assertEqual(house, HOUSE)


class ShowsTest(unittest.TestCase):
    def test_sides(self):
        self.assertIs(shows_known(HOUSE, "oil", ("begin", "a"), 3, [("a", 0)]), True)
        self.assertIs(shows_known(HOUSE, "oil", ("now", "a"), 5, [("a", 2)]), True)
        self.assertIs(shows_known(HOUSE, "oil", ("some", "d"), -2, [("a", 1)]), True)
        self.assertIs(shows_known(HOUSE, "oil", ("some", "d"), 2, [("a", 1)]), False)
        self.assertIs(shows_known(HOUSE, "oil", ("begin", "a"), -3, [("a", 0)]), False)
        self.assertIs(shows_known(HOUSE, "oil", ("now", "a"), -5, [("a", 2)]), False)
        self.assertIs(shows_known(HOUSE, "oil", ("begin", "a"), 3, []), False)
        self.assertIs(shows_known(HOUSE, "oil", ("begin", "a"), 0, []), False)
        self.assertIs(shows_known(HOUSE, "oil", ("begin", "b"), 4, [("b", 0), ("b", 1)]), False)
        self.assertIs(shows_known(HOUSE, "oil", ("begin", "b"), 0, [("b", 0)]), False)

    def test_sides_where_the_good_clashes(self):
        self.assertIs(shows_known(CLASHING, "oil", ("begin", "a"), 3, [("a", 0)]), True)
        self.assertIs(shows_known(CLASHING, "oil", ("now", "a"), 6, [("a", 3)]), True)
        # With a heap that clashes another amount is shown, which says nothing of what stood.
        self.assertIs(shows_known(CLASHING, "oil", ("begin", "a"), 4, [("a", 0), ("a", 2)]), True)
        self.assertIs(shows_known(CLASHING, "oil", ("begin", "a"), 3, [("a", 0), ("a", 2)]), False)
        self.assertIs(shows_free(CLASHING, "oil", ("begin", "b"), told(HOUSE, "oil", ("begin", "b"))[1]), True)

    def test_rings(self):
        ring = [(("begin", "b"), True), (("look", "e"), True), (("now", "b"), True)]
        for tie in (("begin", "b"), ("look", "e"), ("now", "b")):
            self.assertIs(shows_free(HOUSE, "oil", tie, ring), True)
            self.assertIs(shows_free(HOUSE, "oil", tie, [(step[0], False) for step in ring[::-1]]), True)
            self.assertIs(shows_free(HOUSE, "oil", tie, ring[:2]), False)
            self.assertIs(shows_free(HOUSE, "oil", tie, [ring[1], ring[0], ring[2]]), False)
            self.assertIs(shows_free(HOUSE, "oil", tie, []), False)
            self.assertIs(shows_free(HOUSE, "rice", tie, ring), False)
            for thing in of_other_kinds(tie):
                self.assertIs(shows_free(HOUSE, "oil", thing, ring), False)
            for thing in of_other_kinds(ring):
                self.assertIs(shows_free(HOUSE, "oil", tie, thing), False)
        for tie in (("begin", "a"), ("some", "d"), ("begin", "z"), ("look", "b"), ("begin", "b", "b")):
            self.assertIs(shows_free(HOUSE, "oil", tie, ring), False)

    def test_whatever_shows_nothing(self):
        tie, amount, side = ("begin", "a"), 3, [("a", 0)]
        ring = [(("begin", "a"), True), (("now", "a"), True)]
        self.assertIs(shows_known(HOUSE, "oil", tie, amount, side), True)
        self.assertIs(shows_free(EMPTY, "oil", tie, ring), True)
        for thing in whatever():
            self.assertIs(shows_known(HOUSE, "oil", thing, amount, side), False)
            self.assertIs(shows_known(HOUSE, "oil", tie, thing, side), False)
            self.assertIs(shows_known(HOUSE, "oil", tie, amount, thing), False)
            self.assertIs(shows_known(HOUSE, "oil", thing, thing, thing), False)
            self.assertIs(shows_known(HOUSE, "oil", tie, amount, [thing]), False)
            self.assertIs(shows_known(HOUSE, "oil", tie, amount, side + [thing]), False)
            self.assertIs(shows_known(HOUSE, "oil", tie, amount, [("a", thing)]), repr(thing) == "0")
            self.assertIs(shows_free(EMPTY, "oil", thing, ring), False)
            self.assertIs(shows_free(EMPTY, "oil", tie, thing), False)
            self.assertIs(shows_free(EMPTY, "oil", thing, thing), False)
            self.assertIs(shows_free(EMPTY, "oil", tie, ring + [thing]), False)

    def test_spoilt_papers_show_nothing(self):
        house = house_of(("a", "b"), ("oil",), [
            ("count", "c", 1, "oil", "a", 1, "ann"), ("some", "d", 2, "oil", "a", "b"),
            ("count", "e", 2, "oil", "b", 0, "ann"), ("look", "f", 3, "oil", "a"), ("look", "g", 3, "oil", "b"),
        ])
        found = 0
        for tie, out, into in ties(house, "oil"):
            paper = told(house, "oil", tie)
            if paper[0] == "known":
                right = [tie, *paper[1:]]
                self.assertIs(shows_known(house, "oil", *right), True)
                for part in range(3):
                    for thing in of_other_kinds(right[part]):
                        wrong = right[:part] + [thing] + right[part + 1:]
                        self.assertIs(shows_known(house, "oil", *wrong), False, wrong)
                        found += 1
        self.assertGreater(found, 50)

    def test_all_sides_by_the_words_of_the_document(self):
        shown = clashing = 0
        for seed in range(120):
            house = drawn_house(seed) if seed % 3 else fitting_house(seed)
            for good in house[1]:
                members = [row[0] for row in pieces(house, good)]
                if len(members) > 5:
                    continue
                free = null_vectors(house, good)
                fits = not clashes(house, good)
                amounts = dict(zip([row[0] for row in ties(house, good)], filling(house, good))) if fits else {}
                for many in range(len(members) + 1):
                    for side in itertools.combinations(members, many):
                        total = sum(row[4] for row in pieces(house, good) if row[0] in side)
                        for at, (tie, out, into) in enumerate(ties(house, good)):
                            for amount in sorted({total, -total, total + 1, -total - 1}):
                                right = known_by_the_words(house, good, tie, amount, list(side))
                                self.assertIs(shows_known(house, good, tie, amount, list(side)), right)
                                if right:
                                    # Whatever is let by, what it says is so.
                                    self.assertTrue(all(vector[at] == 0 for vector in free))
                                    self.assertTrue(not fits or amounts[tie] == amount)
                                    shown += 1
                                    clashing += not fits
        self.assertGreater(shown, 100)
        self.assertGreater(clashing, 10)

    def test_told_papers_with_parts_more_or_fewer(self):
        spoilt = 0
        for seed in range(80):
            house = fitting_house(seed)
            for good in house[1]:
                members = [row[0] for row in pieces(house, good)]
                for tie, out, into in ties(house, good):
                    paper = told(house, good, tie)
                    if paper[0] == "known":
                        amount, side = paper[1:]
                        self.assertIs(shows_known(house, good, tie, amount + 1, side), False)
                        self.assertIs(shows_known(house, good, tie, amount - 1, side), False)
                        others = [other for other in reshaped(side) if all(piece in members for piece in other)]
                        for other in others + [side + [piece] for piece in members]:
                            right = known_by_the_words(house, good, tie, amount, other)
                            self.assertIs(shows_known(house, good, tie, amount, other), right)
                            spoilt += not right
                        self.assertIs(shows_free(house, good, tie, side), False)
                    else:
                        self.assertIs(shows_free(house, good, tie, paper[1][:-1]), False)
                        self.assertIs(shows_free(house, good, tie, paper[1] + paper[1][:1]), False)
                        self.assertIs(shows_known(house, good, tie, 0, paper[1]), False)
                        for other in ties(house, good):
                            there = other[0] in [step[0] for step in paper[1]]
                            self.assertIs(shows_free(house, good, other[0], paper[1]), there)
        self.assertGreater(spoilt, 500)

    def test_what_is_handed_in_stays(self):
        house = copy.deepcopy(HOUSE)
        side = [("a", 0)]
        ring = [(("begin", "b"), True), (("look", "e"), True), (("now", "b"), True)]
        kept = list(ring)
        shows_known(house, "oil", ("begin", "a"), 3, side)
        shows_free(house, "oil", ("begin", "b"), ring)
        self.assertEqual((house, side, ring), (HOUSE, [("a", 0)], kept))


if __name__ == "__main__":
    unittest.main()
