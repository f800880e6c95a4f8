import copy
import itertools
import unittest

from shelfcounts.heaps import shut_rows
from shelfcounts.houses import house_of, without_entry
from shelfcounts.settling import least_lot, settles
from shelfcounts.trees import holds
from tests.helper import looks, of_other_kinds, places_in, reshaped, small_house, whatever

# Three tracks, each of them counted twice alike but for one more.
HOUSE = house_of(("x", "y", "z"), ("oil",), [
    ("count", "a", 1, "oil", "x", 1, "ann"), ("count", "b", 2, "oil", "x", 2, "ann"),
    ("count", "c", 1, "oil", "y", 1, "ann"), ("count", "d", 2, "oil", "y", 2, "ann"),
    ("count", "e", 1, "oil", "z", 1, "ann"), ("count", "f", 2, "oil", "z", 2, "ann"),
])
LEAF = ("oil", ("e", "f"), ())
TWIG = ("oil", ("c", "d"), (LEAF, LEAF))
TREE = ("oil", ("a", "b"), (TWIG, TWIG))
# Two goods, one piece each; the first of them fits.
GOODS = house_of(("x",), ("oil", "rice"), [
    ("count", "a", 1, "oil", "x", 1, "ann"), ("come", "b", 2, "oil", "x", 1, 1),
    ("count", "c", 3, "oil", "x", 2, "ann"),
    ("count", "d", 1, "rice", "x", 1, "ann"), ("come", "e", 2, "rice", "x", 2, 1),
    ("count", "f", 3, "rice", "x", 2, "ann"),
])


def holds_by_the_words(house, tree, many):
    """Of a tuple of three, what the document says."""
    if not isinstance(tree, tuple) or len(tree) != 3 or tree[0] not in house[1]:
        return False
    good, names, trees = tree
    if not any(row == (names, row[1]) and row[1] != 0 for row in shut_rows(house, good)):
        return False
    if many == 0 or not isinstance(trees, tuple):
        return trees == ()
    if len(trees) != len(names):
        return False
    return all([holds_by_the_words(without_entry(house, names[at]), trees[at], many - 1) for at in range(len(names))])


def papers(least):
    """The tuples (tree, number) that are told for drawn houses of at most twelve entries."""
    found = []
    for seed in range(120):
        house = small_house(seed)
        told = least_lot(house)
        if told[0] == "more":
            found.append((house, told[1], 2))
        elif told[2] is not None:
            found.append((house, told[2], len(told[1]) - 1))
    assert len(found) >= least
    return found


class HoldsTest(unittest.TestCase):
    def test_numbers(self):
        for tree, many in ((("oil", ("a", "b"), ()), 0), (("oil", ("c", "d"), ()), 0), (LEAF, 0), (TWIG, 1), (TREE, 2)):
            for number in range(3):
                self.assertIs(holds(HOUSE, tree, number), number == many)

    def test_trees_of_unlike_rows(self):
        one, other = ("oil", ("a", "b"), ()), ("oil", ("c", "d"), ())
        self.assertIs(holds(HOUSE, ("oil", ("a", "b"), (other, LEAF)), 1), True)
        self.assertIs(holds(HOUSE, ("oil", ("a", "b"), (LEAF, one)), 1), False)
        self.assertIs(holds(HOUSE, ("oil", ("a", "b"), (("oil", ("b", "c"), ()), LEAF)), 1), False)
        twigs = ("oil", ("a", "b"), (other, other)), ("oil", ("c", "d"), (one, one))
        self.assertIs(holds(HOUSE, ("oil", ("e", "f"), twigs), 2), True)
        self.assertIs(holds(HOUSE, ("oil", ("e", "f"), twigs[::-1]), 2), True)
        self.assertIs(holds(HOUSE, ("oil", ("a", "b"), twigs), 2), False)

    def test_trees_of_other_houses(self):
        self.assertIs(holds(without_entry(HOUSE, "a"), LEAF, 0), True)
        self.assertIs(holds(without_entry(HOUSE, "a"), TWIG, 1), True)
        self.assertIs(holds(without_entry(HOUSE, "a"), TREE, 2), False)
        self.assertIs(holds(without_entry(HOUSE, "f"), TREE, 2), False)
        self.assertIs(holds(without_entry(HOUSE, "f"), ("oil", ("a", "b"), ()), 0), True)
        self.assertIs(holds(GOODS, LEAF, 0), False)
        self.assertIs(holds(house_of(("x",), ("oil",), ()), LEAF, 0), False)

    def test_rows_whose_sum_is_nought_hold_nothing(self):
        self.assertIs(holds(GOODS, ("rice", ("d", "e", "f"), ()), 0), True)
        self.assertIs(holds(GOODS, ("oil", ("a", "b", "c"), ()), 0), False)
        self.assertIs(holds(GOODS, ("rice", ("a", "b", "c"), ()), 0), False)
        self.assertIs(holds(GOODS, ("oil", ("d", "e", "f"), ()), 0), False)
        self.assertIs(holds(GOODS, ("salt", ("d", "e", "f"), ()), 0), False)

    def test_looks_and_thirty_entries(self):
        entries = looks(30)
        entries[0] = ("count", "zz", 0, "oil", "left", 4, "ann")
        entries[29] = ("count", "aa", 29, "oil", "left", 5, "ann")
        house = house_of(("left",), ("oil",), entries)
        self.assertIs(holds(house, ("oil", ("aa", "zz"), ()), 0), True)
        self.assertIs(holds(house, ("oil", ("zz", "aa"), ()), 0), False)
        self.assertIs(holds(house, ("oil", ("aa", "ab", "zz"), ()), 0), False)

    def test_whatever_holds_nothing(self):
        for thing in whatever():
            for number in range(3):
                right = thing == () and number == 0
                self.assertIs(holds(HOUSE, thing, number), False)
                self.assertIs(holds(HOUSE, (thing,) * 3, number), False)
                self.assertIs(holds(HOUSE, (thing, ("a", "b"), ()), number), False)
                self.assertIs(holds(HOUSE, ("oil", thing, ()), number), False)
                self.assertIs(holds(HOUSE, ("oil", ("a", "b"), thing), number), right)
                self.assertIs(holds(HOUSE, ("oil", ("a", "b"), (thing, TWIG)), number), False)
                self.assertIs(holds(HOUSE, ("oil", ("a", "b"), (TWIG, thing)), number), False)
                self.assertIs(holds(HOUSE, ("oil", ("a", thing), ()), number), False)
                self.assertIs(holds(HOUSE, ("oil", ("a", "b"), (), thing), number), False)

    def test_trees_of_other_kinds_hold_nothing(self):
        for tree, many in ((LEAF, 0), (TWIG, 1), (TREE, 2)):
            for thing in of_other_kinds(tree):
                self.assertIs(holds(HOUSE, thing, many), False, thing)

    def test_a_tree_many_times_within_another(self):
        tree = LEAF
        for step in range(25):
            tree = ("oil", ("a", "b"), (tree, tree))
        for number in range(3):
            self.assertIs(holds(HOUSE, tree, number), False)

    def test_reshaped_trees_by_the_words_of_the_document(self):
        for tree, many in ((LEAF, 0), (TWIG, 1), (TREE, 2)):
            for thing in reshaped(tree):
                for number in range(3):
                    self.assertIs(holds(HOUSE, thing, number), holds_by_the_words(HOUSE, thing, number), thing)
        let_by = refused = 0
        for house, tree, many in papers(60):
            if len(repr(tree)) < 600:
                names = [entry[1] for entry in house[2]]
                others = [put(names[names.index(part) - 1]) for part, put in places_in(tree) if part in names]
                for thing in reshaped(tree) + others + [tree]:
                    expected = holds_by_the_words(house, thing, many)
                    self.assertIs(holds(house, thing, many), expected, thing)
                    let_by += expected
                    refused += not expected
        self.assertGreater(let_by, 30)
        self.assertGreater(refused, 1000)

    def test_told_trees_hold_and_no_lot_of_so_many_settles(self):
        found = {0: 0, 1: 0, 2: 0}
        for house, tree, many in papers(60):
            self.assertIs(holds(house, tree, many), True)
            for number in range(3):
                self.assertIs(holds(house, tree, number), number == many)
            names = [entry[1] for entry in house[2]]
            for size in range(many + 1):
                for lot in itertools.combinations(names, size):
                    self.assertIs(settles(house, lot), False)
            found[many] += 1
        self.assertGreater(min(found.values()), 8)

    def test_what_is_handed_in_stays(self):
        house, tree = copy.deepcopy(HOUSE), copy.deepcopy(TREE)
        self.assertIs(holds(house, tree, 2), True)
        self.assertEqual((house, tree), (HOUSE, TREE))


if __name__ == "__main__":
    unittest.main()
