import unittest

from shelfcounts.heaps import heaps, shut_rows
from shelfcounts.houses import house_of
from shelfcounts.pieces import pieces, ties
from shelfcounts.tracks import touched
from tests.helper import Walk, drawn_house, looks

HOUSE = house_of(("a", "b", "c"), ("oil", "rice"), [
    ("count", "d", 1, "oil", "a", 10, "ann"),
    ("count", "e", 1, "oil", "b", 20, "ann"),
    ("count", "f", 1, "rice", "a", 7, "ann"),
    ("swap", "g", 2, "a", "c"),
    ("come", "h", 2, "oil", "c", 1, 5),
    ("go", "i", 2, "rice", "c", 3),
    ("some", "j", 3, "oil", "c", "b"),
    ("look", "k", 4, "oil", "b"),
    ("move", "l", 5, "oil", "c", "a", 2),
    ("swap", "m", 6, "b", "a"),
    ("count", "n", 7, "oil", "a", 15, "bob"),
    ("count", "o", 7, "oil", "c", 9, "bob"),
    ("swap", "p", 8, "b", "c"),
    ("count", "q", 9, "oil", "b", 9, "bob"),
    ("count", "r", 9, "rice", "b", 4, "bob"),
])


def heaps_by_the_words(house, good):
    """The heaps as the document says them, step by step."""
    balances = {row[0]: row[4] for row in pieces(house, good)}
    led = [(out, into) for tie, out, into in ties(house, good)]
    left = sorted(balances)
    found = []
    while left:
        reached = {left[0]}
        while True:
            more = {piece for pair in led if reached & set(pair) for piece in pair if piece is not None} - reached
            if not more:
                break
            reached |= more
        shut = not any(None in pair and reached & set(pair) for pair in led)
        found.append((tuple(sorted(reached)), sum(balances[piece] for piece in reached), shut))
        left = [piece for piece in left if piece not in reached]
    return found


def names_by_the_words(house, good, members):
    """The names of a shut heap's row as the document says them, step by step."""
    numbers = {entry[1]: number for number, entry in enumerate(house[2])}
    rows = {row[0]: row for row in pieces(house, good)}
    names = set()
    for piece in members:
        track, opened, closed, inside = piece[0], *rows[piece][1:4]
        names |= {name for name in (opened, closed) if house[2][numbers[name]][0] == "count"} | set(inside)
        for number in range(numbers[opened], numbers[closed]):
            if house[2][number][0] == "swap" and track in touched(house, number):
                names.add(house[2][number][1])
    return tuple(sorted(names))


class HeapsTest(unittest.TestCase):
    def test_heaps(self):
        self.assertEqual(heaps(HOUSE, "oil"), [
            ((("a", 0),), 10, False),
            ((("a", 1), ("b", 1), ("b", 2)), (9 - 10 - 1 + 2) + (0 - 20) + (15 - 0), True),
            ((("a", 2),), 9 - 9, True),
            ((("a", 3),), -9, False),
            ((("b", 0),), 20, False),
            ((("b", 3),), -15, False),
            ((("c", 0),), -2, False),
        ])

    def test_heaps_of_another_good(self):
        self.assertEqual(heaps(HOUSE, "rice"), [
            ((("a", 0),), 7, False),
            ((("a", 1),), 4 - 7 + 3, True),
            ((("a", 2),), -4, False),
            ((("b", 0),), 0, False),
            ((("c", 0),), 0, False),
        ])

    def test_rows(self):
        self.assertEqual(shut_rows(HOUSE, "oil"), [
            (("d", "e", "g", "h", "j", "l", "m", "n", "o"), -5),
            (("o", "p", "q"), 0),
        ])
        self.assertEqual(shut_rows(HOUSE, "rice"), [(("f", "g", "i", "p", "r"), 0)])

    def test_swaps_ahead_of_a_piece_and_behind_it_are_not_in_its_row(self):
        house = house_of(("a", "b", "c"), ("oil",), [
            ("swap", "d", 1, "a", "b"), ("count", "e", 1, "oil", "a", 1, "ann"), ("swap", "f", 2, "b", "c"),
            ("swap", "g", 3, "a", "b"), ("swap", "h", 4, "a", "c"), ("swap", "i", 5, "c", "b"),
            ("count", "j", 5, "oil", "c", 3, "ann"), ("swap", "k", 6, "c", "b"),
        ])
        self.assertEqual(shut_rows(house, "oil"), [(("e", "g", "i", "j"), 2)])

    def test_a_swap_of_the_moment_of_the_count_that_opens_is_ahead_of_it(self):
        house = house_of(("a", "b"), ("oil",), [
            ("count", "c", 1, "oil", "a", 1, "ann"), ("swap", "d", 1, "a", "b"), ("swap", "e", 2, "a", "b"),
            ("count", "f", 2, "oil", "b", 1, "ann"),
        ])
        self.assertEqual(shut_rows(house, "oil"), [(("c", "e", "f"), 0)])

    def test_looks_hang_pieces_together_and_are_in_no_row(self):
        house = house_of(("a",), ("oil",), [
            ("count", "b", 1, "oil", "a", 1, "ann"), ("look", "c", 2, "oil", "a"), ("go", "d", 3, "oil", "a", 1),
            ("look", "e", 4, "oil", "a"), ("count", "f", 5, "oil", "a", 3, "ann"), ("look", "g", 6, "oil", "a"),
        ])
        self.assertEqual(heaps(house, "oil"), [
            ((("a", 0),), 1, False),
            ((("a", 1), ("a", 2), ("a", 3)), 3, True),
            ((("a", 4), ("a", 5)), -3, False),
        ])
        self.assertEqual(shut_rows(house, "oil"), [(("b", "d", "f"), 3)])

    def test_a_some_to_the_outside_opens_a_heap(self):
        entries = [("count", "b", 1, "oil", "a", 1, "ann"), ("count", "d", 5, "oil", "a", 3, "ann")]
        house = house_of(("a",), ("oil",), entries)
        self.assertEqual(heaps(house, "oil")[1], ((("a", 1),), 2, True))
        self.assertEqual(shut_rows(house, "oil"), [(("b", "d"), 2)])
        house = house_of(("a",), ("oil",), entries + [("some", "c", 2, "oil", "a", "")])
        self.assertEqual(heaps(house, "oil")[1], ((("a", 1),), 2, False))
        self.assertEqual(shut_rows(house, "oil"), [])

    def test_a_some_to_a_track_that_is_open_opens_a_heap(self):
        house = house_of(("a", "b"), ("oil",), [
            ("count", "c", 1, "oil", "b", 1, "ann"), ("some", "d", 2, "oil", "b", "a"),
            ("count", "e", 5, "oil", "b", 3, "ann"),
        ])
        self.assertEqual(heaps(house, "oil"), [
            ((("a", 0), ("b", 1)), 2, False),
            ((("b", 0),), 1, False),
            ((("b", 2),), -3, False),
        ])

    def test_a_house_without_entries(self):
        house = house_of(("a",), ("oil",), ())
        self.assertEqual(heaps(house, "oil"), [((("a", 0),), 0, False)])
        self.assertEqual(shut_rows(house, "oil"), [])

    def test_thirty_entries(self):
        entries = looks(30)
        entries[0] = ("count", "aa", 0, "oil", "left", 4, "ann")
        entries[29] = ("count", "zz", 29, "oil", "left", 5, "ann")
        house = house_of(("left",), ("oil",), entries)
        middle = tuple(("left", number) for number in range(1, 30))
        self.assertEqual(heaps(house, "oil"), [((("left", 0),), 4, False), (middle, 1, True), ((("left", 30),), -5, False)])
        self.assertEqual(shut_rows(house, "oil"), [(("aa", "zz"), 1)])

    def test_numbers_of_pieces_rise_as_numbers(self):
        counts = [("count", look[1], look[2], "oil", "left", 0, "ann") for look in looks(15)]
        house = house_of(("left",), ("oil",), counts)
        self.assertEqual([row[0] for row in heaps(house, "oil")], [(("left", number),) for number in range(16)])

    def test_heaps_and_rows_by_the_words_of_the_document(self):
        shut = swapped = several = 0
        for seed in range(300):
            house = drawn_house(seed)
            swaps = {entry[1] for entry in house[2] if entry[0] == "swap"}
            for good in house[1]:
                with self.subTest(seed=seed, good=good):
                    told = heaps_by_the_words(house, good)
                    rows = [(names_by_the_words(house, good, row[0]), row[1]) for row in told if row[2]]
                    self.assertEqual(heaps(house, good), told)
                    self.assertEqual(shut_rows(house, good), sorted(rows))
                    shut += len(rows)
                    swapped += len([row for row in rows if swaps & set(row[0])])
                    several += len([row for row in told if row[2] and len({piece[0] for piece in row[0]}) > 1])
        self.assertGreater(shut, 200)
        self.assertGreater(swapped, 50)
        self.assertGreater(several, 50)

    def test_true_counts_give_shut_heaps_sums_of_nought(self):
        for seed in range(200):
            drawn = drawn_house(seed)
            for good in drawn[1]:
                house = (drawn[0], drawn[1], tuple(Walk(drawn, good, seed, True).entries))
                with self.subTest(seed=seed, good=good):
                    self.assertEqual([row for row in shut_rows(house, good) if row[1] != 0], [])

    def test_answers_are_the_askers_own_and_plain(self):
        for ask in (heaps, shut_rows):
            first = ask(HOUSE, "oil")
            self.assertIs(type(first), list)
            kept = list(first)
            first.reverse()
            first.pop()
            self.assertEqual(ask(HOUSE, "oil"), kept)
        for members, total, shut in heaps(HOUSE, "oil"):
            self.assertIs(type(members), tuple)
            self.assertIn(shut, (True, False))
            self.assertIs(type(shut), bool)


if __name__ == "__main__":
    unittest.main()
