import copy
import itertools
import unittest

from shelfcounts.clashes import clash_of, clashes, shows_clash
from shelfcounts.heaps import heaps
from shelfcounts.houses import house_of, with_entry
from shelfcounts.pieces import pieces, ties
from tests.helper import drawn_house, looks, of_other_kinds, reshaped, solvable, whatever

# The heaps of oil that are shut: two pieces of a and b with the sum -5, one of a with 0, one of a with 5.
HOUSE = house_of(("a", "b"), ("oil", "rice"), [
    ("count", "c", 1, "oil", "a", 10, "ann"),
    ("count", "d", 1, "oil", "b", 20, "ann"),
    ("some", "e", 2, "oil", "a", "b"),
    ("count", "f", 3, "oil", "a", 5, "bob"),
    ("count", "g", 3, "oil", "b", 20, "bob"),
    ("count", "h", 4, "oil", "a", 5, "bob"),
    ("count", "i", 5, "oil", "a", 10, "bob"),
    ("count", "j", 1, "rice", "a", 1, "ann"),
    ("go", "k", 2, "rice", "a", 1),
    ("count", "l", 3, "rice", "a", 0, "ann"),
])
FIRST = [("a", 1), ("b", 1)]
FITTING = [("a", 2)]
LAST = [("a", 3)]


def shows_by_the_words(house, good, thing):
    """Of a list of pieces of the good, what the document says."""
    balances = {row[0]: row[4] for row in pieces(house, good)}
    if not thing or sorted(set(thing)) != thing or any(piece not in balances for piece in thing):
        return False
    for tie, out, into in ties(house, good):
        ends = [end for end in (out, into) if end in thing]
        if len(ends) == 1:
            return False
    return sum(balances[piece] for piece in thing) != 0


class ClashesTest(unittest.TestCase):
    def test_the_first_heap_that_clashes_is_told(self):
        self.assertIs(clashes(HOUSE, "oil"), True)
        self.assertEqual(clash_of(HOUSE, "oil"), FIRST)
        self.assertIs(clashes(HOUSE, "rice"), False)
        self.assertIsNone(clash_of(HOUSE, "rice"))

    def test_a_later_heap_alone(self):
        house = with_entry(HOUSE, ("come", "m", 2, "oil", "b", 5, 1))
        self.assertEqual([row[1:] for row in heaps(house, "oil") if row[2]], [(-10, True), (0, True), (5, True)])
        house = with_entry(HOUSE, ("go", "m", 2, "oil", "b", 5))
        self.assertIs(clashes(house, "oil"), True)
        self.assertEqual(clash_of(house, "oil"), LAST)
        self.assertIs(shows_clash(house, "oil", FIRST), False)
        self.assertIs(shows_clash(house, "oil", LAST), True)

    def test_a_house_that_fits(self):
        house = house_of(("a",), ("oil",), [
            ("count", "b", 1, "oil", "a", 1, "ann"), ("count", "c", 2, "oil", "a", 1, "ann"),
        ])
        self.assertIs(clashes(house, "oil"), False)
        self.assertIsNone(clash_of(house, "oil"))
        self.assertIs(shows_clash(house, "oil", [("a", 1)]), False)

    def test_heaps_that_are_not_shut_never_clash(self):
        house = house_of(("a",), ("oil",), [
            ("count", "b", 1, "oil", "a", 1, "ann"), ("some", "c", 2, "oil", "a", ""),
            ("count", "d", 3, "oil", "a", 7, "ann"),
        ])
        self.assertIs(clashes(house, "oil"), False)
        for members in (("a", 0),), (("a", 1),), (("a", 2),), (("a", 0), ("a", 1), ("a", 2)):
            self.assertIs(shows_clash(house, "oil", list(members)), False)

    def test_which_pieces_show_it(self):
        self.assertIs(shows_clash(HOUSE, "oil", FIRST), True)
        self.assertIs(shows_clash(HOUSE, "oil", LAST), True)
        self.assertIs(shows_clash(HOUSE, "oil", FITTING), False)
        self.assertIs(shows_clash(HOUSE, "oil", [("a", 1), ("a", 2), ("b", 1)]), True)
        self.assertIs(shows_clash(HOUSE, "oil", [("a", 2), ("a", 3)]), True)
        # Two heaps that clash, but the sum of both is 0.
        self.assertIs(shows_clash(HOUSE, "oil", [("a", 1), ("a", 3), ("b", 1)]), False)
        self.assertIs(shows_clash(HOUSE, "oil", [("a", 1)]), False)
        self.assertIs(shows_clash(HOUSE, "oil", [("b", 1)]), False)
        self.assertIs(shows_clash(HOUSE, "oil", []), False)
        self.assertIs(shows_clash(HOUSE, "oil", [("a", 0)]), False)
        self.assertIs(shows_clash(HOUSE, "oil", [("a", 4)]), False)

    def test_houses_without_entries_and_of_thirty(self):
        house = house_of(("a",), ("oil",), ())
        self.assertIs(clashes(house, "oil"), False)
        self.assertIsNone(clash_of(house, "oil"))
        self.assertIs(shows_clash(house, "oil", [("a", 0)]), False)
        entries = looks(30)
        entries[0] = ("count", "aa", 0, "oil", "left", 4, "ann")
        entries[29] = ("count", "zz", 29, "oil", "left", 5, "ann")
        house = house_of(("left",), ("oil",), entries)
        middle = [("left", number) for number in range(1, 30)]
        self.assertEqual(clash_of(house, "oil"), middle)
        self.assertIs(shows_clash(house, "oil", middle), True)
        self.assertIs(shows_clash(house, "oil", middle[:-1]), False)

    def test_pieces_of_another_good(self):
        self.assertIs(shows_clash(HOUSE, "rice", FIRST), False)
        self.assertIs(shows_clash(HOUSE, "rice", LAST), False)
        self.assertIs(shows_clash(HOUSE, "oil", [("c", 1)]), False)

    def test_whatever_shows_nothing(self):
        for thing in whatever() + [[thing] for thing in whatever()] + [(FIRST,), {"a": FIRST}, [FIRST], [("a", -1)]]:
            self.assertIs(shows_clash(HOUSE, "oil", thing), False)
        for thing in whatever():
            self.assertIs(shows_clash(HOUSE, "oil", [("a", 1), thing]), False)
            self.assertIs(shows_clash(HOUSE, "oil", [("a", 1), ("b", thing)]), repr(thing) == "1")
            self.assertIs(shows_clash(HOUSE, "oil", [("a", 1), (thing, 1)]), False)

    def test_spoilt_papers_show_nothing(self):
        for right in (FIRST, LAST):
            self.assertIs(shows_clash(HOUSE, "oil", right), True)
            for thing in of_other_kinds(right) + reshaped(right):
                self.assertIs(shows_clash(HOUSE, "oil", thing), False, thing)

    def test_a_truth_is_no_number_of_a_piece(self):
        self.assertIs(shows_clash(HOUSE, "oil", [("a", True), ("b", 1)]), False)
        self.assertIs(shows_clash(HOUSE, "oil", [("a", 1), ("b", True)]), False)

    def test_all_lists_of_pieces_by_the_words_of_the_document(self):
        shown = 0
        for seed in range(150):
            house = drawn_house(seed)
            for good in house[1]:
                members = [row[0] for row in pieces(house, good)]
                if len(members) <= 7:
                    for many in range(len(members) + 1):
                        for thing in itertools.combinations(members, many):
                            right = shows_by_the_words(house, good, list(thing))
                            self.assertIs(shows_clash(house, good, list(thing)), right)
                            # Whatever shows a clash, it is so.
                            self.assertTrue(not right or clashes(house, good))
                            shown += right
        self.assertGreater(shown, 50)

    def test_a_good_fits_or_pieces_show_that_it_does_not(self):
        clashing = fitting = several = later = 0
        for seed in range(400):
            house = drawn_house(seed)
            for good in house[1]:
                with self.subTest(seed=seed, good=good):
                    wrong = [list(row[0]) for row in heaps(house, good) if row[2] and row[1] != 0]
                    shut = [list(row[0]) for row in heaps(house, good) if row[2]]
                    self.assertIs(clashes(house, good), not solvable(house, good))
                    self.assertIs(clashes(house, good), wrong != [])
                    if wrong:
                        self.assertEqual(clash_of(house, good), wrong[0])
                        for members in wrong:
                            self.assertIs(shows_clash(house, good, members), True)
                        clashing += 1
                        several += len(wrong) > 1
                        later += shut[0] != wrong[0]
                    else:
                        self.assertIsNone(clash_of(house, good))
                        fitting += 1
        self.assertGreater(min(clashing, fitting, several, later), 20)

    def test_what_is_handed_in_and_told(self):
        house = copy.deepcopy(HOUSE)
        thing = [("a", 1), ("b", 1)]
        self.assertIs(shows_clash(house, "oil", thing), True)
        first = clash_of(house, "oil")
        self.assertIs(type(first), list)
        first.clear()
        self.assertEqual(clash_of(house, "oil"), FIRST)
        self.assertEqual(thing, FIRST)
        self.assertEqual(house, HOUSE)


if __name__ == "__main__":
    unittest.main()
