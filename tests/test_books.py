import unittest

from shelfcounts.books import below, book_at, book_behind, differences
from shelfcounts.houses import house_of
from shelfcounts.pieces import pieces
from shelfcounts.tracks import touched, track_at
from tests.helper import drawn_house, looks

HOUSE = house_of(("a", "b"), ("oil", "rice"), [
    ("come", "c", 1, "oil", "a", 4, 1),
    ("count", "d", 1, "oil", "a", 10, "ann"),
    ("count", "e", 2, "rice", "b", 0, "ann"),
    ("swap", "f", 3, "a", "b"),
    ("go", "g", 3, "oil", "b", 13),
    ("go", "h", 3, "rice", "a", 2),
    ("move", "i", 4, "oil", "a", "b", 6),
    ("look", "j", 4, "oil", "b"),
    ("count", "k", 5, "oil", "b", 5, "bob"),
    ("some", "l", 6, "oil", "b", "a"),
    ("count", "m", 7, "oil", "b", 8, "ann"),
    ("count", "n", 7, "rice", "a", 0, "bob"),
    ("count", "o", 8, "oil", "a", 1, "bob"),
    ("move", "p", 8, "oil", "a", "b", 2),
    ("count", "q", 9, "oil", "a", 2, "ann"),
])


def book_by_the_words(house, good, place, at):
    """The book as the document says it, step by step."""
    track = track_at(house, place, at)
    own = [number for number in range(at)
           if house[2][number][0] != "swap" and house[2][number][3] == good and track in touched(house, number)]
    counts = [number for number in own if house[2][number][0] == "count"]
    if not counts:
        return None
    behind = [number for number in own if number > counts[-1]]
    if any(house[2][number][0] == "some" for number in behind):
        return None
    book = house[2][counts[-1]][5]
    for number in behind:
        entry = house[2][number]
        if entry[0] == "come":
            book += entry[5]
        elif entry[0] == "go":
            book -= entry[5]
        elif entry[0] == "move":
            book += entry[6] if track_at(house, entry[5], number) == track else -entry[6]
    return book


class BooksTest(unittest.TestCase):
    def test_books_behind_each_entry(self):
        # The move p stands ahead of the count o of the same moment.
        left = [None, None, 10, 10] + [None] * 10 + [1, 2]
        right = [None, None, None, None, 10, -3, -3, 3, 3, 5, None, 8, 8, 10, 10, 10]
        for at in range(16):
            with self.subTest(at=at):
                self.assertEqual(book_behind(HOUSE, "oil", "a", at), left[at])
                self.assertEqual(book_behind(HOUSE, "oil", "b", at), right[at])

    def test_books_of_another_good(self):
        self.assertEqual([book_behind(HOUSE, "rice", "b", at) for at in range(5)], [None, None, None, 0, None])
        self.assertEqual([book_behind(HOUSE, "rice", "a", at) for at in (3, 4, 5, 6, 11, 12, 15)],
                         [None, 0, 0, -2, -2, 0, 0])

    def test_books_at_moments(self):
        for moment, book in ((0, None), (1, None), (2, None), (3, -3), (4, 3), (5, 5), (6, None), (7, 8), (8, 10),
                             (9, 10), (9999, 10)):
            with self.subTest(moment=moment):
                self.assertEqual(book_at(HOUSE, "oil", "b", moment), book)
        self.assertEqual([book_at(HOUSE, "oil", "a", moment) for moment in range(4)], [None, 10, 10, None])

    def test_a_house_without_entries(self):
        house = house_of(("a",), ("oil",), ())
        self.assertIsNone(book_behind(house, "oil", "a", 0))
        self.assertIsNone(book_at(house, "oil", "a", 9999))
        self.assertEqual(differences(house), [])
        self.assertEqual(below(house), [])

    def test_a_some_to_the_outside_ends_a_book(self):
        house = house_of(("a",), ("oil", "rice"), [
            ("count", "a", 0, "oil", "a", 3, "ann"), ("some", "b", 1, "rice", "a", ""),
            ("some", "c", 2, "oil", "a", ""), ("come", "d", 3, "oil", "a", 3, 1), ("count", "e", 4, "oil", "a", 3, "ann"),
        ])
        self.assertEqual([book_behind(house, "oil", "a", at) for at in range(6)], [None, 3, 3, None, None, 3])
        self.assertEqual(differences(house), [])

    def test_differences(self):
        self.assertEqual(differences(HOUSE), [
            ("oil", "d", "k", 5 - 3),
            ("oil", "o", "q", 2 - 1),
            ("rice", "e", "n", 0 - -2),
        ])

    def test_a_difference_of_nought_and_the_last_count_ahead(self):
        house = house_of(("a",), ("oil",), [
            ("count", "z", 0, "oil", "a", 3, "ann"), ("go", "x", 1, "oil", "a", 1),
            ("count", "y", 1, "oil", "a", 2, "ann"), ("count", "b", 2, "oil", "a", 0, "ann"),
            ("count", "a", 3, "oil", "a", 1, "ann"),
        ])
        self.assertEqual(differences(house), [("oil", "b", "a", 1), ("oil", "y", "b", -2), ("oil", "z", "y", 0)])

    def test_below_nought(self):
        self.assertEqual(below(HOUSE), [("oil", "g", "b", -3), ("rice", "h", "a", -2)])

    def test_only_goes_and_moves_at_their_one_are_below(self):
        house = house_of(("a", "b"), ("oil", "rice"), [
            ("count", "a", 0, "oil", "a", 2, "ann"), ("count", "b", 0, "oil", "b", 0, "ann"),
            ("go", "c", 1, "oil", "b", 9), ("move", "d", 2, "oil", "a", "b", 2), ("move", "e", 3, "oil", "a", "b", 1),
            ("come", "f", 4, "oil", "b", 1, 0), ("look", "g", 4, "oil", "b"), ("go", "h", 5, "rice", "a", 1),
            ("swap", "i", 6, "a", "b"), ("go", "j", 6, "oil", "b", 1), ("go", "k", 6, "oil", "a", 1),
        ])
        self.assertEqual(below(house), [
            ("oil", "c", "b", -9), ("oil", "e", "a", -1), ("oil", "j", "b", -2), ("oil", "k", "a", -6),
        ])

    def test_books_by_the_words_of_the_document(self):
        for seed in range(150):
            house = drawn_house(seed)
            for good in house[1]:
                for place in house[0]:
                    for at in range(len(house[2]) + 1):
                        with self.subTest(seed=seed, good=good, place=place, at=at):
                            self.assertEqual(book_behind(house, good, place, at),
                                             book_by_the_words(house, good, place, at))
                    for moment in (0, 1, 5, 9, 100, 9999):
                        at = len([entry for entry in house[2] if entry[2] <= moment])
                        self.assertEqual(book_at(house, good, place, moment), book_by_the_words(house, good, place, at))

    def test_differences_and_below_by_the_words_of_the_document(self):
        for seed in range(150):
            house = drawn_house(seed)
            counts = []
            lows = []
            for at, entry in enumerate(house[2]):
                if entry[0] == "count":
                    book = book_by_the_words(house, entry[3], entry[4], at)
                    if book is not None:
                        ahead = [other[1] for number, other in enumerate(house[2][:at]) if other[0] == "count"
                                 and other[3] == entry[3] and touched(house, number) == touched(house, at)][-1]
                        counts.append((entry[3], ahead, entry[1], entry[5] - book))
                if entry[0] in ("go", "move"):
                    book = book_by_the_words(house, entry[3], entry[4], at + 1)
                    if book is not None and book < 0:
                        lows.append((entry[3], entry[1], entry[4], book))
            with self.subTest(seed=seed):
                self.assertEqual(differences(house), sorted(counts))
                self.assertEqual(below(house), sorted(lows))

    def test_balances_between_counts_are_differences(self):
        seen = 0
        for seed in range(150):
            house = drawn_house(seed)
            words = {entry[1]: entry[0] for entry in house[2]}
            told = {(row[0], row[2]): row for row in differences(house)}
            for good in house[1]:
                for piece, opened, closed, inside, balance in pieces(house, good):
                    ends = (words.get(opened), words.get(closed))
                    if ends == ("count", "count") and "some" not in [words[name] for name in inside]:
                        self.assertEqual(told[(good, closed)], (good, opened, closed, balance))
                        seen += 1
        self.assertGreater(seen, 100)

    def test_thirty_entries(self):
        counts = [("count", look[1], look[2], "oil", "left", look[2], "ann") for look in looks(30)]
        house = house_of(("left",), ("oil",), counts)
        self.assertEqual(book_behind(house, "oil", "left", 30), 29)
        self.assertEqual([row[3] for row in differences(house)], [1] * 29)

    def test_answers_are_the_askers_own(self):
        for ask in (differences, below):
            first = ask(HOUSE)
            kept = list(first)
            first.reverse()
            first.pop()
            self.assertEqual(ask(HOUSE), kept)


if __name__ == "__main__":
    unittest.main()
