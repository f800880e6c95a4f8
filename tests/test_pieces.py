import unittest

from shelfcounts.houses import house_of
from shelfcounts.pieces import pieces, ties
from tests.helper import Walk, drawn_house, looks

HOUSE = house_of(("a", "b"), ("oil", "rice"), [
    ("come", "c", 1, "oil", "a", 4, 1),
    ("come", "d", 1, "rice", "a", 400, 1),
    ("count", "e", 2, "oil", "a", 10, "ann"),
    ("swap", "f", 3, "a", "b"),
    ("go", "g", 3, "oil", "b", 3),
    ("move", "h", 4, "oil", "b", "a", 2),
    ("some", "i", 4, "oil", "a", "b"),
    ("look", "j", 5, "oil", "b"),
    ("some", "k", 6, "oil", "a", ""),
    ("count", "l", 7, "oil", "b", 5, "bob"),
    ("count", "m", 7, "rice", "b", 6, "bob"),
])


class PiecesTest(unittest.TestCase):
    def test_pieces_and_balances(self):
        self.assertEqual(pieces(HOUSE, "oil"), [
            (("a", 0), None, "e", ("c",), 10 - 4),
            (("a", 1), "e", "j", ("g", "h", "i"), -10 + 3 + 2),
            (("a", 2), "j", "l", (), 5),
            (("a", 3), "l", None, (), -5),
            (("b", 0), None, None, ("h", "i", "k"), -2),
        ])

    def test_pieces_of_another_good(self):
        self.assertEqual(pieces(HOUSE, "rice"), [
            (("a", 0), None, "m", ("d",), 6 - 400),
            (("a", 1), "m", None, (), -6),
            (("b", 0), None, None, (), 0),
        ])

    def test_ties(self):
        self.assertEqual(ties(HOUSE, "oil"), [
            (("begin", "a"), None, ("a", 0)),
            (("begin", "b"), None, ("b", 0)),
            (("look", "j"), ("a", 1), ("a", 2)),
            (("now", "a"), ("a", 3), None),
            (("now", "b"), ("b", 0), None),
            (("some", "i"), ("b", 0), ("a", 1)),
            (("some", "k"), ("b", 0), None),
        ])

    def test_ties_of_another_good(self):
        self.assertEqual(ties(HOUSE, "rice"), [
            (("begin", "a"), None, ("a", 0)),
            (("begin", "b"), None, ("b", 0)),
            (("now", "a"), ("a", 1), None),
            (("now", "b"), ("b", 0), None),
        ])

    def test_a_house_without_entries(self):
        house = house_of(("a",), ("oil",), ())
        self.assertEqual(pieces(house, "oil"), [(("a", 0), None, None, (), 0)])
        self.assertEqual(ties(house, "oil"), [(("begin", "a"), None, ("a", 0)), (("now", "a"), ("a", 0), None)])

    def test_thirty_looks_and_numbers_that_rise_as_numbers(self):
        house = house_of(("left",), ("oil",), looks(30))
        names = [entry[1] for entry in looks(30)]
        ends = [None] + names + [None]
        told = [(("left", number), ends[number], ends[number + 1], (), 0) for number in range(31)]
        self.assertEqual(pieces(house, "oil"), told)
        self.assertEqual(ties(house, "oil")[0], (("begin", "left"), None, ("left", 0)))
        self.assertEqual(ties(house, "oil")[1:31],
                         [(("look", name), ("left", at), ("left", at + 1)) for at, name in enumerate(names)])
        self.assertEqual(ties(house, "oil")[31:], [(("now", "left"), ("left", 30), None)])

    def test_the_same_moment(self):
        house = house_of(("a", "b"), ("oil",), [
            ("count", "a", 5, "oil", "a", 7, "ann"), ("look", "b", 5, "oil", "a"),
            ("swap", "z", 5, "a", "b"), ("come", "y", 5, "oil", "a", 2, 0), ("move", "c", 5, "oil", "b", "a", 1),
        ])
        self.assertEqual(pieces(house, "oil"), [
            (("a", 0), None, None, ("c",), 1),
            (("b", 0), None, "a", ("c", "y"), 7 - 1 - 2),
            (("b", 1), "a", "b", (), -7),
            (("b", 2), "b", None, (), 0),
        ])

    def test_names_of_entries_places_and_goods_may_be_alike(self):
        house = house_of(("a", "b"), ("a", "b"), [
            ("some", "a", 1, "a", "a", "b"), ("look", "b", 2, "a", "a"), ("count", "c", 3, "b", "a", 1, "a"),
        ])
        self.assertEqual(ties(house, "a"), [
            (("begin", "a"), None, ("a", 0)),
            (("begin", "b"), None, ("b", 0)),
            (("look", "b"), ("a", 0), ("a", 1)),
            (("now", "a"), ("a", 1), None),
            (("now", "b"), ("b", 0), None),
            (("some", "a"), ("a", 0), ("b", 0)),
        ])

    def test_greatest_numbers(self):
        house = house_of(("a", "b"), ("oil",), [
            ("count", "a", 0, "oil", "a", 10 ** 9, "ann"), ("come", "b", 1, "oil", "a", 10 ** 9, 0),
            ("move", "c", 1, "oil", "b", "a", 10 ** 9), ("count", "d", 9999, "oil", "a", 0, "ann"),
        ])
        self.assertEqual(pieces(house, "oil")[1], (("a", 1), "a", "d", ("b", "c"), -3 * 10 ** 9))

    def test_what_a_walk_with_boxes_tells(self):
        for seed in range(400):
            house = drawn_house(seed)
            for good in house[1]:
                with self.subTest(seed=seed, good=good):
                    walk = Walk(house, good)
                    self.assertEqual(pieces(house, good), walk.pieces)
                    self.assertEqual(ties(house, good), walk.ties)

    def test_what_stood_fits_the_balances(self):
        for seed in range(400):
            drawn = drawn_house(seed)
            for good in drawn[1]:
                walk = Walk(drawn, good, seed, True)
                house = (drawn[0], drawn[1], tuple(walk.entries))
                left = {row[0]: row[4] for row in pieces(house, good)}
                for tie, out, into in ties(house, good):
                    if into is not None:
                        left[into] -= walk.amounts[tie]
                    if out is not None:
                        left[out] += walk.amounts[tie]
                with self.subTest(seed=seed, good=good):
                    self.assertEqual(set(left.values()), {0})

    def test_answers_are_the_askers_own(self):
        for ask in (pieces, ties):
            first = ask(HOUSE, "oil")
            kept = list(first)
            first.reverse()
            first.pop()
            self.assertEqual(ask(HOUSE, "oil"), kept)

    def test_answers_are_plain(self):
        for ask in (pieces, ties):
            told = ask(HOUSE, "oil")
            self.assertIs(type(told), list)
            for row in told:
                self.assertIs(type(row), tuple)
        self.assertIs(type(pieces(HOUSE, "oil")[0][3]), tuple)


if __name__ == "__main__":
    unittest.main()
