import copy
import unittest

from shelfcounts.entries import day_of, goes_ahead, good_of, is_entry, places_of
from tests.helper import nested, whatever

COME = ("come", "a", 5, "oil", "left", 3, 2)
GO = ("go", "b", 5, "oil", "left", 3)
MOVE = ("move", "c", 5, "oil", "left", "right", 3)
SOME = ("some", "d", 5, "oil", "left", "right")
OUT = ("some", "e", 5, "oil", "left", "")
SWAP = ("swap", "f", 5, "left", "right")
COUNT = ("count", "g", 5, "oil", "left", 3, "ann")
LOOK = ("look", "h", 5, "oil", "left")
ALL = (COME, GO, MOVE, SOME, OUT, SWAP, COUNT, LOOK)


def with_part(entry, at, part):
    return entry[:at] + (part,) + entry[at + 1:]


def fitting(word, at, thing):
    """Whether a thing of tests.helper.whatever, which has no names, may be this part of an entry."""
    if isinstance(thing, bool):
        return False
    if isinstance(thing, int):
        least = {("come", 5): 1, ("come", 6): 0, ("go", 5): 1, ("move", 6): 1, ("count", 5): 0}.get((word, at))
        return (at == 2 and 0 <= thing <= 9999) or (least is not None and least <= thing <= 10 ** 9)
    return thing == "" and word == "some" and at == 5


class IsEntryTest(unittest.TestCase):
    def check(self, thing, right):
        with self.subTest(thing=str(thing)[:80]):
            self.assertIs(is_entry(thing), right)

    def test_the_forms(self):
        for entry in ALL:
            self.check(entry, True)

    def test_names_may_be_alike(self):
        self.check(("come", "a", 0, "a", "a", 1, 0), True)
        self.check(("move", "a", 0, "a", "a", "b", 1), True)
        self.check(("move", "a", 0, "b", "a", "b", 1), True)
        self.check(("some", "a", 0, "a", "a", ""), True)
        self.check(("swap", "a", 0, "a", "b"), True)
        self.check(("count", "a", 0, "a", "a", 0, "a"), True)

    def test_moments(self):
        for entry in ALL:
            for moment, right in ((0, True), (9999, True), (-1, False), (10000, False), (10 ** 59, False)):
                self.check(with_part(entry, 2, moment), right)

    def test_many(self):
        for entry, at, least in ((COME, 5, 1), (GO, 5, 1), (MOVE, 6, 1), (COUNT, 5, 0), (COME, 6, 0)):
            for many, right in ((least, True), (least + 1, True), (10 ** 9, True), (least - 1, False),
                                (10 ** 9 + 1, False), (-(10 ** 9), False)):
                self.check(with_part(entry, at, many), right)

    def test_names_of_one_and_eight_letters(self):
        for entry in ALL:
            for at in range(1, len(entry)):
                if isinstance(entry[at], str) and entry[at] != "":
                    self.check(with_part(entry, at, "z"), True)
                    self.check(with_part(entry, at, "abcdefgh"), True)
                    self.check(with_part(entry, at, "abcdefghi"), False)
                    self.check(with_part(entry, at, "Oil"), False)

    def test_only_a_some_goes_to_the_outside(self):
        for entry in ALL:
            for at in range(1, len(entry)):
                if isinstance(entry[at], str):
                    self.check(with_part(entry, at, ""), entry[0] == "some" and at == 5)

    def test_both_places_the_same(self):
        self.check(("move", "c", 5, "oil", "left", "left", 3), False)
        self.check(("some", "d", 5, "oil", "left", "left"), False)
        self.check(("swap", "f", 5, "left", "left"), False)

    def test_parts_more_or_fewer(self):
        for entry in ALL:
            for count in range(len(entry)):
                self.check(entry[:count], entry[:count] == LOOK)
            for more in ("a", "", 1, None):
                self.check(entry + (more,), False)

    def test_the_word_of_another_form(self):
        sizes = {"come": 7, "go": 6, "move": 7, "some": 6, "swap": 5, "count": 7, "look": 5}
        for entry in ALL:
            for word in sizes:
                # A look and a swap alone have parts of the same sorts.
                alike = sorted((word, entry[0])) == ["look", "swap"]
                if word != entry[0] and sizes[word] == len(entry):
                    self.check((word,) + entry[1:], alike)
            for word in ("Come", "", "gone", "c"):
                self.check((word,) + entry[1:], False)

    def test_lists_in_the_place_of_tuples(self):
        for entry in ALL:
            self.check(list(entry), False)

    def test_any_part_may_be_whatever_thing(self):
        for entry in ALL:
            for at in range(len(entry)):
                for thing in whatever():
                    self.check(with_part(entry, at, thing), fitting(entry[0], at, thing))

    def test_truths_in_the_place_of_whole_numbers(self):
        for entry in ALL:
            for at in range(1, len(entry)):
                if isinstance(entry[at], int):
                    self.check(with_part(entry, at, True), False)
                    self.check(with_part(entry, at, False), False)

    def test_other_things(self):
        for thing in whatever():
            self.check(thing, False)
        self.check(dict.fromkeys(LOOK), False)

    def test_what_is_asked_of_stays_as_it_was(self):
        thing = ["come", [nested("list", 50)], {"a": ["b"]}]
        kept = copy.deepcopy(thing)
        is_entry(thing)
        is_entry(("come", thing, 0, thing, thing, thing, thing))
        self.assertEqual(thing, kept)


class PartsTest(unittest.TestCase):
    def test_days(self):
        for moment, day in ((0, 0), (1, 0), (99, 0), (100, 1), (199, 1), (200, 2), (9899, 98), (9900, 99), (9999, 99)):
            self.assertEqual(day_of(moment), day)

    def test_goods(self):
        for entry in ALL:
            self.assertEqual(good_of(entry), None if entry == SWAP else "oil")

    def test_places(self):
        for entry in (COME, GO, COUNT, LOOK, OUT):
            self.assertEqual(places_of(entry), ("left",))
        for entry in (MOVE, SOME, SWAP):
            self.assertEqual(places_of(entry), ("left", "right"))
        self.assertEqual(places_of(("move", "c", 5, "oil", "right", "left", 3)), ("right", "left"))
        self.assertEqual(places_of(("some", "c", 5, "oil", "right", "left")), ("right", "left"))
        self.assertEqual(places_of(("swap", "c", 5, "right", "left")), ("right", "left"))


class OrderTest(unittest.TestCase):
    def ahead(self, entry, other):
        with self.subTest(entry=entry, other=other):
            self.assertIs(goes_ahead(entry, other), True)
            self.assertIs(goes_ahead(other, entry), False)

    def test_moments_go_first(self):
        for entry in ALL:
            for other in ALL:
                self.ahead(with_part(with_part(entry, 2, 9), 1, "z"), with_part(with_part(other, 2, 10), 1, "a"))

    def test_words_of_one_moment(self):
        ranks = ((SWAP,), (COME, GO, MOVE, SOME, OUT), (COUNT, LOOK))
        for first in range(3):
            for second in range(first + 1, 3):
                for entry in ranks[first]:
                    for other in ranks[second]:
                        self.ahead(with_part(entry, 1, "z"), with_part(other, 1, "a"))

    def test_names_of_words_that_are_alike(self):
        for alike in ((SWAP,), (COME, GO, MOVE, SOME, OUT), (COUNT, LOOK)):
            for entry in alike:
                for other in alike:
                    self.ahead(with_part(entry, 1, "a"), with_part(other, 1, "b"))
                    self.ahead(with_part(entry, 1, "az"), with_part(other, 1, "b"))
                    self.ahead(with_part(entry, 1, "a"), with_part(other, 1, "aa"))


if __name__ == "__main__":
    unittest.main()
